"""Things and how they lie in one another.

The things that are here stand in a dict by their numbers. It is filled by rising numbers and no number comes
twice, so walking it goes by rising numbers.
"""


class Thing:
    """A thing: its kind, its holder (0: the world), and its own values by attribute."""

    def __init__(self, kind, holder):
        self.kind = kind
        self.holder = holder
        self.own = {}


def held_by(things, holder):
    """The numbers of the things that the holder holds, rising."""
    return [number for number in things if things[number].holder == holder]


def all_holdings(things):
    """For each holder that holds something, the numbers of what it holds, rising."""
    holdings = {}
    for number in things:
        holdings.setdefault(things[number].holder, []).append(number)
    return holdings


def inside(things, holder):
    """The numbers of the things inside the holder, each ahead of those inside it."""
    holdings = all_holdings(things)
    found = []
    # Things may lie 200 deep, so they wait here instead of in calls within calls.
    waiting = list(reversed(holdings.get(holder, [])))
    while len(waiting) > 0:
        number = waiting.pop()
        found.append(number)
        waiting.extend(list(reversed(holdings.get(number, []))))
    return found


def holders_of(things, number):
    """The numbers of the things that the thing lies in, from near to far."""
    found = []
    holder = things[number].holder
    while holder != 0:
        found.append(holder)
        holder = things[holder].holder
    return found
