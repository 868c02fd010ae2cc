"""Indexes: rising rows of what things have of some attributes."""


def rows_below(rows, wanted):
    """How many of the rising rows stand below the wanted one."""
    low = 0
    high = len(rows)
    while low < high:
        middle = (low + high) // 2
        if rows[middle] < wanted:
            low = middle + 1
        else:
            high = middle
    return low


class Index:
    """An index: its attributes, its rows, and the row of each thing that has one."""

    def __init__(self, attributes):
        self.attributes = attributes
        self.rows = []
        self.row_of = {}

    def take_out(self, number):
        """Take out the thing's row, if it has one."""
        row = self.row_of.pop(number, None)
        if row is not None:
            self.rows.pop(rows_below(self.rows, row))

    def renew(self, number, had):
        """Bring the thing's row up to what it has of the attributes (None: nothing)."""
        self.take_out(number)
        if None not in had:
            row = had + [number]
            self.row_of[number] = row
            self.rows.insert(rows_below(self.rows, row), row)

    def rows_with(self, front):
        """The rows that begin with the values in front."""
        # A row's front stands below every row that begins with it, so the search ends at the first of these.
        start = rows_below(self.rows, front)
        end = start
        while end < len(self.rows) and self.rows[end][:len(front)] == front:
            end += 1
        return self.rows[start:end]
