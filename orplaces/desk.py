"""A desk, which carries out lines of words, and a listing of a store."""

from orplaces.deeds import carry_out
from orplaces.errors import OrError
from orplaces.phrases import read_phrase


class Desk:
    """Keeps a frame, a store, a program and entries; does and answers what it is told."""

    def __init__(self):
        self.frame = None
        self.store = None
        self.program = None
        self.entries = {}

    @property
    def starts(self):
        """The entries."""
        return dict(self.entries)

    def say(self, line):
        """Carries out a line and returns its answer."""
        return self.answer(line, 0)

    def __call__(self, line):
        return self.answer(line, 0)

    def run(self, *lines):
        """Carries out one line after another and returns the list of the answers."""
        return [self.answer(line, index) for index, line in enumerate(lines)]

    def answer(self, line, index):
        """Carries out the line with this index and returns its answer."""
        name, told = read_phrase(line, index)
        try:
            return carry_out(self, name, told)
        except OrError as e:
            return "refused " + e.__class__.__name__


def listing(store):
    """The words and the locked addresses of a store, in columns."""
    locked = store.locked
    places = [address for address in range(store.frame.size) if address in store or address in locked]
    return "\n".join([listed_line(store, address) for address in places])


def listed_line(store, address):
    """The line of an address."""
    mark = "*" if address in store.locked else " "
    if address not in store:
        return f"{address:>3}{mark} blank"
    word = store[address]
    signals = f" {word.signals}" if word.signals else ""
    return f"{address:>3}{mark} {word.kind:<8} {word.base:>3}{signals}"
