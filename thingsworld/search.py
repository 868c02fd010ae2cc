"""How a question's things are looked for."""

from thingsworld.questions import how_much_told, meets, things_by_index
from thingsworld.things import held_by, inside


class Plan:
    """How a question would be looked for.

    Which index is taken (its number and 1, or 0 for none), how much it tells, and which things are looked at.
    """

    def __init__(self, taken, told, looked_at):
        self.taken = taken
        self.told = told
        self.looked_at = looked_at


def plan_for(world, question):
    """The plan for the question."""
    told = [how_much_told(index.attributes, question) for index in world.indexes]
    most = max(told, default=0)
    if most == 0:
        return Plan(0, 0, list(world.things))
    place = told.index(most)
    return Plan(place + 1, most, things_by_index(world.indexes[place], question))


def things_in_place(world, question):
    """The numbers of the things that are where the question asks."""
    if question.place == -1:
        return list(world.things)
    if question.deep == 1:
        return inside(world.things, question.place)
    return held_by(world.things, question.place)


def is_wanted(world, question, number):
    """Whether the thing is of the kind that is asked for and meets all conditions."""
    if question.kind != 0 and not world.is_a(number, question.kind):
        return False
    for condition in question.conditions:
        if not meets(world.value_of(number, condition[0]), condition[1], condition[2]):
            return False
    return True


def sorting_row(world, question, number):
    """A row by which the thing is sorted; its last member is the thing's number."""
    row = []
    for sorting in question.sortings:
        had = world.value_of(number, sorting[0])
        # Things that have nothing stand behind all others both upwards and downwards.
        if had is None:
            row.extend([1, 0])
        else:
            row.extend([0, -had if sorting[1] == 1 else had])
    row.append(number)
    return row


def search(world, question, looked_at):
    """The answer to the question, found among the things that are looked at."""
    placed = sorted(set(looked_at) & set(things_in_place(world, question)))
    wanted = [number for number in placed if is_wanted(world, question, number)]
    rows = sorted([sorting_row(world, question, number) for number in wanted])
    return [row[-1] for row in rows[:question.most]]
