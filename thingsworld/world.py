"""The package's interface."""

from thingsworld.calls import answer_call
from thingsworld.state import World


def answers(calls):
    """The answers to the calls on a new object, each behind how many numbers it has."""
    world = World()
    answered = []
    start = 0
    while start < len(calls):
        end = start + 2 + calls[start + 1]
        answer = answer_call(world, calls[start + 2:end])
        answered.append(len(answer))
        answered.extend(answer)
        start = end
    return answered
