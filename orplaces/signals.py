"""Signals, drafts of them, and their unions."""

from orplaces.errors import Clash, FieldClash, InvalidName, InvalidNumber
from orplaces.integers import is_integer
from orplaces.names import is_name


class Signals:
    """What is told of fields; a field that is not told is 0; never changes."""

    MOST = 1000000000

    # A field may be called self, so the object itself needs a name that no field has.
    def __init__(this_object, **fields):
        for field in sorted(fields):
            check_field(field)
            check_number(fields[field])
        this_object.told = tuple([(field, fields[field]) for field in sorted(fields) if fields[field] != 0])
        this_object._numbers = dict(this_object.told)

    @classmethod
    def of(cls, pairs):
        """The Signals of pairs of a field and its integer."""
        fields = {}
        for field, number in pairs:
            check_field(field)
            if field in fields:
                raise InvalidName(field)
            check_number(number)
            fields[field] = number
        return cls(**fields)

    def within(self, other):
        """Whether each field that is told here has the same integer in other."""
        return all([other[field] == number for field, number in self.told])

    def __getitem__(self, at):
        check_field(at)
        return self._numbers.get(at, 0)

    def __iter__(self):
        raise TypeError("signals are not gone through; take told")

    def __or__(self, other):
        check_union(self, other)
        numbers = {**self._numbers, **other._numbers}
        return Signals(**numbers)

    def __bool__(self):
        return bool(self.told)

    def __len__(self):
        return len(self.told)

    def __eq__(self, other):
        return isinstance(other, Signals) and self.told == other.told

    def __str__(self):
        if not self.told:
            return "none"
        return " ".join([f"{field}={number}" for field, number in self.told])

    def __repr__(self):
        return f"Signals({told_text(self)})"


class Draft:
    """Signals that change."""

    def __init__(self, signals=None):
        self._numbers = {}
        if signals is not None:
            self.put(signals)

    def put(self, signals):
        """Sets all fields that the signals tell."""
        for field, number in signals.told:
            self._numbers[field] = number

    @property
    def present(self):
        """The Signals that the draft is now."""
        return Signals(**self._numbers)

    def __getitem__(self, at):
        check_field(at)
        return self._numbers.get(at, 0)

    def __setitem__(self, at, worth):
        check_field(at)
        check_number(worth)
        self._numbers[at] = worth

    def __iter__(self):
        raise TypeError("a draft is not gone through; take present.told")

    def __ior__(self, other):
        check_union(self.present, other)
        self.put(other)
        return self

    def __eq__(self, other):
        return isinstance(other, Draft) and self.present == other.present

    def __repr__(self):
        return f"Draft({told_text(self.present)})"


def merged(parts):
    """All signals of a dict from names to Signals, united."""
    union = Signals()
    for name in sorted(parts):
        if clash_of(union, parts[name]) is not None:
            raise_clash(parts, name)
        union = union | parts[name]
    return union


def raise_clash(parts, name):
    """Raises the Clash of a name, whose signals clash with some lesser one's."""
    for lesser in sorted(parts):
        try:
            check_union(parts[lesser], parts[name])
        except FieldClash as clash:
            raise Clash(lesser, name) from clash


def check_union(one, other):
    """Raises FieldClash if two Signals clash."""
    field = clash_of(one, other)
    if field is not None:
        raise FieldClash(field, one[field], other[field])


def clash_of(one, other):
    """The first field in which two Signals clash, or None."""
    for field, number in one.told:
        if other[field] not in (0, number):
            return field
    return None


def check_field(field):
    """Raises InvalidName if any value is no name."""
    if not is_name(field):
        raise InvalidName(field)


def check_number(number):
    """Raises InvalidNumber if any value is no integer that a field can have."""
    if not is_integer(number, 0, Signals.MOST):
        raise InvalidNumber(number)


def told_text(signals):
    """What stands in the brackets where signals are shown."""
    return ", ".join([f"{field}={number}" for field, number in signals.told])
