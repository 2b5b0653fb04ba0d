"""Frames: the width, rows, fields and kinds of stores."""

from orplaces.errors import InvalidAddress, InvalidFrame, InvalidWord, NoKind
from orplaces.integers import is_integer
from orplaces.kinds import Kind
from orplaces.names import are_names
from orplaces.rows import Rows
from orplaces.stores import Word


class Frame:
    """A width, possible rows, fields and kinds; never changes."""

    MOST_WIDTH = 8
    MOST_FIELDS = 8
    MOST_KINDS = 8

    def __init__(self, width, rows, fields, *kinds):
        if not is_integer(width, 1, Frame.MOST_WIDTH):
            raise InvalidFrame("width")
        if not isinstance(rows, Rows):
            raise InvalidFrame("rows")
        if not isinstance(fields, (list, tuple)) or not are_names(fields, Frame.MOST_FIELDS):
            raise InvalidFrame("fields")
        if not are_kinds(kinds) or not all([fits(kind, width, rows) for kind in kinds]):
            raise InvalidFrame("kinds")
        self.width = width
        self.rows = rows
        self.fields = tuple(fields)
        self.kinds = kinds

    @classmethod
    def of(cls, width, rows, fields, kinds):
        """The frame of a list or tuple of kinds."""
        return cls(width, rows, fields, *kinds)

    @property
    def size(self):
        """The number of addresses."""
        return 1 << self.width

    @property
    def idle(self):
        """The OR of the bits that no kind has in its mask of any possible row."""
        used = 0
        for kind in self.kinds:
            for row in self.rows.possible:
                used = used | kind.mask(row)
        return self.size - 1 - used

    def landing(self, name, base):
        """The addresses to which the kind and the base lead, row by row over the possible ones."""
        kind = self[name]
        self.check_address(base)
        return tuple([base | kind.mask(row) for row in self.rows.possible])

    def page(self, address):
        """The least address of the page of an address."""
        self.check_address(address)
        return address & self.idle

    def pages(self):
        """The pages, each an ascending tuple, by their least addresses."""
        idle = self.idle
        together = {}
        for address in range(self.size):
            together.setdefault(address & idle, []).append(address)
        for page in list(together.values()):
            yield tuple(page)

    def check(self, word):
        """Raises InvalidWord if any value is no word of this frame."""
        if not isinstance(word, Word):
            raise InvalidWord("word")
        if word.kind not in self:
            raise InvalidWord("kind")
        if not self.has_address(word.base):
            raise InvalidWord("base")
        if not all([field in self.fields for field, number in word.signals.told]):
            raise InvalidWord("signals")

    def has_address(self, value):
        """Whether any value is an address."""
        return is_integer(value, 0, self.size - 1)

    def check_address(self, address):
        """Raises InvalidAddress if any value is no address."""
        if not self.has_address(address):
            raise InvalidAddress(address)

    def wider(self, more=1):
        """The frame with so many bits more."""
        return Frame.of(self.width + more, self.rows, self.fields, self.kinds)

    def with_kinds(self, *kinds):
        """The frame with further kinds behind those that it has."""
        return Frame.of(self.width, self.rows, self.fields, self.kinds + kinds)

    def without(self, name):
        """The frame with a kind less."""
        left = self[name]
        return Frame.of(self.width, self.rows, self.fields, [kind for kind in self.kinds if kind.name != left.name])

    def with_rows(self, rows):
        """The frame with other possible rows of the same conditions."""
        if not isinstance(rows, Rows) or rows.conditions != self.rows.conditions:
            raise InvalidFrame("rows")
        return Frame.of(self.width, rows, self.fields, self.kinds)

    def __getitem__(self, at):
        for kind in self.kinds:
            if kind.name == at:
                return kind
        raise NoKind(at)

    def __iter__(self):
        raise TypeError("a frame is not gone through; take kinds")

    def __contains__(self, x):
        return x in [kind.name for kind in self.kinds]

    def __len__(self):
        return len(self.kinds)

    def __eq__(self, other):
        if not isinstance(other, Frame) or self.width != other.width or self.rows != other.rows:
            return False
        return self.fields == other.fields and self.kinds == other.kinds


def are_kinds(values):
    """Whether a tuple of any values has as many kinds as a frame may have, of different names."""
    if not all([isinstance(value, Kind) for value in values]):
        return False
    return are_names([kind.name for kind in values], Frame.MOST_KINDS)


def fits(kind, width, rows):
    """Whether a kind has masks for conditions of the rows alone, and below 2 ** width."""
    known = all([condition in rows.conditions for condition in kind.mentioned()])
    return known and kind.reach() < (1 << width)
