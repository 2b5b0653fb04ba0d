"""The words of texts and lines, gone through one by one."""

from orplaces.errors import InvalidText
from orplaces.names import is_name

DIGITS = "0123456789"
MOST_DIGITS = 20


class Scan:
    """A place ahead of a word in a list of lines, which are lists of words; first is the index of the first line."""

    def __init__(self, lines, first=0):
        self._lines = lines
        self._first = first
        self._line = 0
        self._word = 0

    def ahead(self):
        """The word ahead; None at the end of a line, and behind the last line."""
        if self.is_done() or self._word == len(self._lines[self._line]):
            return None
        return self._lines[self._line][self._word]

    def is_done(self):
        """Whether all lines have been gone through."""
        return self._line == len(self._lines)

    def take(self, right):
        """Goes behind the word ahead and returns it, if it is right there; raises InvalidText if not."""
        if not right:
            raise InvalidText(self._first + self._line, self._word)
        word = self.ahead()
        self._word += 1
        return word

    def end_line(self):
        """Goes behind the line; raises InvalidText if a word of it is left."""
        if self.ahead() is not None:
            raise InvalidText(self._first + self._line, self._word)
        self._line += 1
        self._word = 0

    def end_text(self):
        """Raises InvalidText if a line is left."""
        if not self.is_done():
            raise InvalidText(self._first + self._line, self._word)


def text_scan(text):
    """The scan of the lines of a text; raises InvalidText for any value that is no string."""
    if not isinstance(text, str):
        raise InvalidText(0, 0)
    return Scan([line.split(" ") for line in text.split("\n")])


def take_literal(scan, word):
    """Takes this very word."""
    return scan.take(scan.ahead() == word)


def take_name(scan):
    """Takes a name."""
    return scan.take(is_name(scan.ahead()))


def take_other_name(scan, taken):
    """Takes a name that is not among those that are taken."""
    return scan.take(is_name(scan.ahead()) and scan.ahead() not in taken)


def take_names(scan):
    """Takes one name or more, up to the end of the line."""
    names = [take_name(scan)]
    while scan.ahead() is not None:
        names.append(take_name(scan))
    return tuple(names)


def take_other_names(scan):
    """Takes one name or more, all different, up to the end of the line."""
    names = {}
    while not names or scan.ahead() is not None:
        names[take_other_name(scan, names)] = True
    return tuple(names)


def take_number(scan):
    """Takes a number."""
    return int(scan.take(is_number(scan.ahead())))


def take_numbers(scan):
    """Takes one number or more, up to the end of the line."""
    numbers = [take_number(scan)]
    while scan.ahead() is not None:
        numbers.append(take_number(scan))
    return numbers


def take_later_number(scan, last):
    """Takes a number that is greater than the last one."""
    return int(scan.take(is_number(scan.ahead()) and int(scan.ahead()) > last))


def take_pairs(scan, stops=()):
    """Takes the words of signals, up to the end of the line or to one of the stops."""
    pairs = []
    while scan.ahead() is not None and scan.ahead() not in stops:
        pair = pair_of(scan.ahead())
        scan.take(pair is not None and (not pairs or pairs[-1][0] < pair[0]))
        pairs.append(pair)
    return pairs


def take_row(scan):
    """Takes the written form of a row of any different names."""
    row = row_of(scan.ahead())
    scan.take(row is not None)
    return row


def take_rows(scan):
    """Takes the written forms of rows, perhaps none, up to the end of the line."""
    rows = []
    while scan.ahead() is not None:
        rows.append(take_row(scan))
    return tuple(rows)


def is_number(value):
    """Whether any value is a number as it stands in texts."""
    if not isinstance(value, str) or not 1 <= len(value) <= MOST_DIGITS:
        return False
    if value[0] == "0" and value != "0":
        return False
    return all([sign in DIGITS for sign in value])


def pair_of(word):
    """The name and the number of a word NAME=N, N not 0; None if it is no such word."""
    name, sign, number = word.partition("=")
    if not is_name(name) or not is_number(number) or number == "0":
        return None
    return name, int(number)


def row_of(value):
    """The row of different names that any value is the written form of; None if it is of none."""
    if not isinstance(value, str):
        return None
    if value == "none":
        return ()
    names = tuple(value.split("+"))
    if not all([is_name(name) for name in names]) or len(set(names)) != len(names):
        return None
    return names
