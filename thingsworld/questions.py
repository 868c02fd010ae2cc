"""Questions: what they tell, and how an index serves them."""


def pieces(numbers, size):
    """The numbers cut into lists of the size."""
    return [numbers[start:start + size] for start in range(0, len(numbers), size)]


class Question:
    """A question, made of numbers that are known to be one.

    Its conditions are lists of attribute, relation (the document's sort) and value; its sortings are lists of
    attribute and 1 for downwards, 0 for upwards.
    """

    def __init__(self, numbers):
        sortings_at = 5 + 3 * numbers[4]
        self.numbers = numbers
        self.kind = numbers[0]
        self.place = numbers[1]
        self.deep = numbers[2]
        self.most = numbers[3]
        self.conditions = pieces(numbers[5:sortings_at], 3)
        self.sortings = pieces(numbers[sortings_at + 1:], 2)
        self.attributes = [piece[0] for piece in self.conditions + self.sortings]


def meets(had, relation, value):
    """Whether what a thing has of an attribute (None: nothing) meets a condition."""
    if had is None:
        return relation == 7
    if relation == 0:
        return had == value
    if relation == 1:
        return had < value
    if relation == 2:
        return had <= value
    if relation == 3:
        return had > value
    if relation == 4:
        return had >= value
    if relation == 5:
        return had != value
    return relation == 6


def meets_each(had, conditions):
    """Whether what a thing has of one attribute meets all these conditions for it."""
    return all([meets(had, condition[1], condition[2]) for condition in conditions])


def conditions_for(question, attribute, lowest, highest):
    """The question's conditions for the attribute with a relation from lowest to highest."""
    named = [condition for condition in question.conditions if condition[0] == attribute]
    return [condition for condition in named if lowest <= condition[1] <= highest]


def asked_values(attributes, question):
    """The values that the question asks of an index's attributes, as far as it goes along them."""
    asked = []
    for attribute in attributes:
        equal = conditions_for(question, attribute, 0, 0)
        if len(equal) == 0:
            break
        asked.append(equal[0][2])
    return asked


def further_bounds(attributes, question, asked):
    """The conditions of relations 1 to 4 for the attribute behind the asked ones; none if there is no further."""
    if len(asked) == len(attributes):
        return []
    return conditions_for(question, attributes[len(asked)], 1, 4)


def how_much_told(attributes, question):
    """How much an index of the attributes tells for the question."""
    # The index has no row for a thing that lacks an attribute: it serves only if the question wants none such.
    if any([len(conditions_for(question, attribute, 0, 6)) == 0 for attribute in attributes]):
        return 0
    asked = asked_values(attributes, question)
    bounded = len(further_bounds(attributes, question, asked)) > 0
    return 2 * len(asked) + (1 if bounded else 0)


def things_by_index(index, question):
    """The numbers of the things that are looked at if the index is taken."""
    asked = asked_values(index.attributes, question)
    bounds = further_bounds(index.attributes, question, asked)
    rows = index.rows_with(asked)
    # Behind the asked values stands the further attribute's, or the thing's number, which no bound is for then.
    return [row[-1] for row in rows if meets_each(row[len(asked)], bounds)]
