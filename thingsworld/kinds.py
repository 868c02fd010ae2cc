"""Kinds and the merging of their orders."""


class Kind:
    """A kind: its order, and its defaults by attribute."""

    def __init__(self, order):
        self.order = order
        self.defaults = {}


class Merging:
    """How far some rows could be merged: the row made of them, and what is left of them."""

    def __init__(self, merged, left):
        self.merged = merged
        self.left = left


def stands_behind(member, rows):
    """Whether a row has the member behind its first place."""
    return any([member in row[1:] for row in rows])


def member_to_take(rows):
    """The first member that merging takes next; 0, which is no kind, if there is none."""
    for row in rows:
        if not stands_behind(row[0], rows):
            return row[0]
    return 0


def rows_without_first(rows, member):
    """The rows with the member taken from their fronts, less the rows that are empty then."""
    shorter = [row[1:] if row[0] == member else row for row in rows]
    return [row for row in shorter if len(row) > 0]


def merge(rows):
    """Merge rows of kinds as far as it goes."""
    merged = []
    left = [row for row in rows if len(row) > 0]
    member = member_to_take(left)
    while member != 0:
        merged.append(member)
        left = rows_without_first(left, member)
        member = member_to_take(left)
    return Merging(merged, left)


def merge_parents(kinds, parents):
    """Merge what the order of a kind with these parents is made of."""
    return merge([kinds[parent].order for parent in parents] + [parents])
