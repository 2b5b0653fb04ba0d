"""The family of kinds: which masks of address bits the conditions have."""

from orplaces.errors import InvalidKind
from orplaces.integers import is_integer
from orplaces.names import are_names, is_name
from orplaces.rows import MOST_CONDITIONS

MOST_MASK = 255


class Kind:
    """A kind whose masks are all 0, and the base class of the others; never changes."""

    MOST_BIT = 7

    def __init__(self, name):
        require(is_name(name), "name")
        self.name = name
        self._masks = {}

    def mask(self, row):
        """The OR of the masks of the conditions of a row."""
        bits = 0
        for condition in row:
            bits = bits | self._masks.get(condition, 0)
        return bits

    def __call__(self, row):
        return self.mask(row)

    def reach(self):
        """The OR of the masks of all conditions."""
        return self.mask(self.mentioned())

    def mentioned(self):
        """The tuple of the conditions whose mask is not 0."""
        return tuple(self._masks)

    def __eq__(self, other):
        return isinstance(other, Kind) and self.name == other.name and self._masks == other._masks


class Test(Kind):
    """A kind with one bit for one condition."""

    def __init__(self, name, condition, bit):
        Kind.__init__(self, name)
        require(is_name(condition), "condition")
        require(is_bit(bit), "bit")
        self._masks = {condition: 1 << bit}


class Window(Kind):
    """A kind with a bit of its own for each of some conditions, side by side from low on."""

    def __init__(self, name, low, *conditions):
        Kind.__init__(self, name)
        require(is_bit(low) and low + len(conditions) - 1 <= Kind.MOST_BIT, "low")
        require(are_names(conditions, MOST_CONDITIONS), "conditions")
        self._masks = {condition: 1 << (low + index) for index, condition in enumerate(conditions)}

    @staticmethod
    def of(name, low, conditions):
        """The Window of a list or tuple of conditions."""
        return Window(name, low, *conditions)


class AnyOf(Kind):
    """A kind with one bit for any of some conditions."""

    def __init__(self, name, bit, *conditions):
        Kind.__init__(self, name)
        require(is_bit(bit), "bit")
        require(are_names(conditions, MOST_CONDITIONS), "conditions")
        self._masks = {condition: 1 << bit for condition in conditions}

    @staticmethod
    def of(name, bit, conditions):
        """The AnyOf of a list or tuple of conditions."""
        return AnyOf(name, bit, *conditions)


class TestWindow(Test, Window):
    """A Test and a Window in one kind."""

    def __init__(self, name, condition, bit, low, *conditions):
        Test.__init__(self, name, condition, bit)
        tested = self.mask((condition,))
        Window.__init__(self, name, low, *conditions)
        both = tested | self.mask((condition,))
        self._masks = {**self._masks, condition: both}


class Masks(Kind):
    """A kind whose masks are told one by one."""

    def __init__(self, name, masks):
        Kind.__init__(self, name)
        require(are_masks(masks), "masks")
        self._masks = {condition: masks[condition] for condition in masks if masks[condition] != 0}


def require(right, part):
    """Raises InvalidKind for the part unless it is right."""
    if not right:
        raise InvalidKind(part)


def is_bit(value):
    """Whether any value is the number of an address bit."""
    return is_integer(value, 0, Kind.MOST_BIT)


def are_masks(value):
    """Whether any value is a dict from conditions to masks."""
    if not isinstance(value, dict) or len(value) > MOST_CONDITIONS:
        return False
    return all([is_name(condition) and is_integer(value[condition], 0, MOST_MASK) for condition in value])
