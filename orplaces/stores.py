"""Words, stores of them, and trials of a store."""

from orplaces.errors import Blank, InvalidWord, Locked, NotPossible, Unlike
from orplaces.integers import is_integer
from orplaces.machines import Machine
from orplaces.names import is_name
from orplaces.signals import Signals

MOST_BASE = 255


class Word:
    """Signals, a kind and a base; never changes."""

    def __init__(self, kind, base, signals):
        if not is_name(kind):
            raise InvalidWord("kind")
        if not is_integer(base, 0, MOST_BASE):
            raise InvalidWord("base")
        if not isinstance(signals, Signals):
            raise InvalidWord("signals")
        self.kind = kind
        self.base = base
        self.signals = signals

    @classmethod
    def of(cls, kind, base, **fields):
        """The word with the Signals of these fields."""
        signals = Signals.of([(field, fields[field]) for field in sorted(fields)])
        return cls(kind, base, signals)

    def __getitem__(self, at):
        return self.signals[at]

    def __iter__(self):
        raise TypeError("a word is not gone through; take signals.told")

    def __eq__(self, other):
        if not isinstance(other, Word):
            return False
        return self.kind == other.kind and self.base == other.base and self.signals == other.signals

    def __str__(self):
        if not self.signals:
            return f"{self.kind} {self.base}"
        return f"{self.kind} {self.base} {self.signals}"


class Store(Machine):
    """The words at the addresses of a frame, some of which may be locked."""

    def __init__(self, frame, words=None, *, locked=()):
        held = {} if words is None else dict(words)
        for address in sorted(held):
            frame.check_address(address)
            frame.check(held[address])
        for address in locked:
            frame.check_address(address)
        self.frame = frame
        self._held = held
        self._locks = tuple(sorted(set(locked)))

    @property
    def locked(self):
        """The ascending tuple of the locked addresses."""
        return self._locks

    @property
    def blank(self):
        """The ascending tuple of the blank addresses."""
        return tuple([address for address in range(self.frame.size) if address not in self._held])

    def words(self):
        """The pairs of an address and its word, ascending."""
        for address in sorted(self._held):
            yield address, self._held[address]

    def has_stand(self, stand):
        """Whether any value is an address."""
        return self.frame.has_address(stand)

    def check_stand(self, stand):
        """Raises InvalidAddress if any value is no address."""
        self.frame.check_address(stand)

    def shown(self, stand):
        """The Signals of the word at an address, None if it is blank."""
        self.check_stand(stand)
        if stand not in self._held:
            return None
        return self._held[stand].signals

    def stepped(self, stand, row):
        """The address to which any tuple of conditions leads, None from a blank one."""
        self.check_stand(stand)
        if stand not in self._held:
            return None
        word = self._held[stand]
        return word.base | self.frame[word.kind].mask(row)

    def __call__(self, address, row):
        self.check_stand(address)
        self.check_row(row)
        if address not in self._held:
            raise Blank(address)
        return self.stepped(address, row)

    def path(self, address, sequence):
        """The address and those behind each row of the sequence, up to a blank one."""
        self.check_stand(address)
        for row in sequence:
            self.check_row(row)
        yield address
        for row in sequence:
            if address not in self._held:
                return
            address = self.stepped(address, row)
            yield address

    def check_row(self, row):
        """Raises NotPossible if any value is no possible row."""
        if row not in self.frame.rows:
            raise NotPossible(row)

    def write(self, address, word):
        """Puts a word at an address."""
        self.check_written(address, word)
        self._held[address] = word

    def erase(self, address):
        """Makes an address blank."""
        self.check_unlocked(address)
        if address in self._held:
            del self._held[address]

    def check_written(self, address, word):
        """Raises the error for which any value cannot be written at the address, if there is one."""
        self.check_unlocked(address)
        self.frame.check(word)

    def check_unlocked(self, address):
        """Raises InvalidAddress or Locked if nothing can be written at any value."""
        self.check_stand(address)
        if address in self._locks:
            raise Locked(address)

    def differs(self, other):
        """The ascending tuple of the addresses at which two stores of one frame differ."""
        if self.frame != other.frame:
            raise Unlike()
        unlike = [address for address in range(self.frame.size) if self._held.get(address) != other._held.get(address)]
        return tuple(unlike)

    def patched(self, patch):
        """The words by their addresses, with those of a dict or store written over them."""
        if isinstance(patch, Store) and self.frame != patch.frame:
            raise Unlike()
        written = patch._held if isinstance(patch, Store) else patch
        for address in sorted(written):
            self.check_written(address, written[address])
        return {**self._held, **written}

    def twin(self):
        """A store that is equal to this one, and another one."""
        return Store(self.frame, self._held, locked=self._locks)

    def with_locks(self, *addresses):
        """A twin in which these addresses are locked, too."""
        return Store(self.frame, self._held, locked=self._locks + addresses)

    def trial(self):
        """What makes the words behind a with block those of its beginning."""
        return Trial(self)

    def __getitem__(self, at):
        self.check_stand(at)
        if at not in self._held:
            raise Blank(at)
        return self._held[at]

    def __setitem__(self, at, worth):
        self.write(at, worth)

    def __iter__(self):
        raise TypeError("a store is not gone through; take words()")

    def __contains__(self, x):
        return self.frame.has_address(x) and x in self._held

    def __len__(self):
        return len(self._held)

    def __eq__(self, other):
        if not isinstance(other, Store) or self.frame != other.frame:
            return False
        return self._locks == other._locks and self._held == other._held

    def __or__(self, other):
        return Store(self.frame, self.patched(other), locked=self._locks)

    def __ior__(self, other):
        self._held = self.patched(other)
        return self


class Trial:
    """The block of a with statement behind which a store has its words again."""

    def __init__(self, store):
        self._store = store
        self._before = {}

    def __enter__(self):
        self._before = dict(self._store._held)
        return self._store

    def __exit__(self, kind, value, trace):
        store = self._store
        store._held = self._before


def in_trial(store, deed):
    """What the deed returns of the store, whose words are then as before."""
    with store.trial() as same:
        return deed(same)
