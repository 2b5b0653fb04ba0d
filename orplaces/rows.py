"""Conditions and their possible rows."""

from orplaces.errors import InvalidRow, InvalidRows, NoCondition
from orplaces.names import are_names

MOST_CONDITIONS = 5


class Rows:
    """Conditions and the rows of them that are possible; never changes."""

    def __init__(self, conditions, *possible):
        check_conditions(conditions)
        rows = {}
        for row in possible:
            if not is_row(conditions, row):
                raise InvalidRow(row)
            rows[row_number(conditions, row)] = row
        if not rows:
            raise InvalidRows("possible")
        self.conditions = conditions
        self.possible = tuple([rows[number] for number in sorted(rows)])

    @classmethod
    def of(cls, conditions, possible):
        """The Rows of a list or tuple of rows."""
        return cls(conditions, *possible)

    @classmethod
    def full(cls, conditions):
        """The Rows in which every row is possible."""
        check_conditions(conditions)
        rows = every_row(conditions)
        return cls(conditions, *rows)

    def number(self, row):
        """The number of a row, a possible one or not."""
        if not is_row(self.conditions, row):
            raise InvalidRow(row)
        return row_number(self.conditions, row)

    def having(self, *names):
        """The row in which these conditions are raised."""
        for name in names:
            if name not in self.conditions:
                raise NoCondition(name)
        return row_with(self.conditions, names)

    def never(self, *names):
        """These Rows without the rows in which all of these conditions are raised."""
        barred = self.having(*names)
        left = [row for row in self.possible if not all([name in row for name in barred])]
        return Rows.of(self.conditions, left)

    def __contains__(self, x):
        return x in self.possible

    def __len__(self):
        return len(self.possible)

    def __eq__(self, other):
        return isinstance(other, Rows) and self.conditions == other.conditions and self.possible == other.possible

    def __repr__(self):
        return f"Rows({len(self.conditions)} conditions, {len(self.possible)} rows)"


def check_conditions(conditions):
    """Raises InvalidRows if any value is not a tuple of conditions."""
    if not isinstance(conditions, tuple) or not are_names(conditions, MOST_CONDITIONS):
        raise InvalidRows("conditions")


def row_with(conditions, raised):
    """The row of those of the conditions that are among the values raised."""
    return tuple([condition for condition in conditions if condition in raised])


def is_row(conditions, value):
    """Whether any value is a row of these conditions."""
    return isinstance(value, tuple) and value == row_with(conditions, value)


def row_number(conditions, row):
    """The number of a row of these conditions."""
    return sum([1 << at for at, condition in enumerate(conditions) if condition in row])


def every_row(conditions):
    """All rows of these conditions, by their numbers."""
    rows = [()]
    for condition in conditions:
        rows = rows + [(*row, condition) for row in rows]
    return rows
