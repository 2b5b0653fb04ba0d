"""States and the programs that they make."""

from orplaces.errors import InvalidName, NoEntries, NoState, NoStates, NoTarget
from orplaces.errors import StateClash, Taken, TooMany, WrongCount
from orplaces.integers import is_integer
from orplaces.machines import Machine
from orplaces.names import is_name

MOST_TESTS = 5


class State:
    """Signals, tests and the targets to which they lead; never changes."""

    def __init__(self, name, signals, *targets, tests=(), tag=None):
        tags = () if tag is None else (tag,)
        for value in (name, *targets, *tests, *tags):
            if not is_name(value):
                raise InvalidName(value)
        if len(tests) > MOST_TESTS:
            raise TooMany("tests")
        for index, test in enumerate(tests):
            if test in tests[:index]:
                raise Taken(test)
        if len(targets) != 1 << len(tests):
            raise WrongCount(1 << len(tests))
        self.name = name
        self.signals = signals
        self.targets = targets
        self.tests = tuple(tests)
        self.tag = tag

    @staticmethod
    def of(name, signals, targets, tests=(), tag=None):
        """The state of a list or tuple of targets."""
        return State(name, signals, *targets, tests=tests, tag=tag)

    def leads(self, row):
        """The name of the target to which the row leads."""
        return self.targets[outcome(self.tests, row)]

    def __eq__(self, other):
        if not isinstance(other, State) or self.name != other.name or self.signals != other.signals:
            return False
        return self.targets == other.targets and self.tests == other.tests and self.tag == other.tag


class Program(Machine):
    """States with different names, in an order; never changes."""

    MOST = 24

    def __init__(self, *states):
        if not states:
            raise NoStates()
        if len(states) > Program.MOST:
            raise TooMany("states")
        named = {}
        for state in states:
            if state.name in named:
                raise Taken(state.name)
            named[state.name] = state
        for state in states:
            for target in state.targets:
                if target not in named:
                    raise NoState(target)
        self._named = named

    @classmethod
    def listed(cls, states):
        """The program of a list or tuple of states."""
        return cls(*states)

    @classmethod
    def of(cls, store, *addresses):
        """The program that the store does from these addresses."""
        if not addresses:
            raise NoEntries()
        rows = store.frame.rows
        met = [address for address, start, sequence in store.reached(rows, *addresses)]
        return cls.listed([state_at(store, address) for address in met])

    @property
    def names(self):
        """The names of the states, in order."""
        return tuple(self._named)

    def has_stand(self, stand):
        """Whether any value is the name of a state."""
        return stand in self

    def check_stand(self, stand):
        """Raises NoState if any value is the name of no state."""
        if stand not in self:
            raise NoState(stand)

    def shown(self, stand):
        """The Signals of a state."""
        return self[stand].signals

    def stepped(self, stand, row):
        """The name of the state to which any tuple of conditions leads."""
        return self[stand].leads(row)

    def __call__(self, name, row):
        return self.stepped(name, row)

    def apart(self, name, index, other):
        """The program in which a target of a state is a copy of what it was, of a new name and tag."""
        state = self[name]
        if not is_integer(index, 0, len(state.targets) - 1):
            raise NoTarget(index)
        if not is_name(other):
            raise InvalidName(other)
        if other in [taken for held in self._named.values() for taken in (held.name, held.tag)]:
            raise Taken(other)
        targets = list(state.targets)
        targets[index] = other
        turned = {**self._named, name: State.of(name, state.signals, targets, state.tests, state.tag)}
        old = turned[state.targets[index]]
        fresh = State.of(other, old.signals, old.targets, old.tests, other)
        return Program.listed(list(turned.values()) + [fresh])

    def __getitem__(self, at):
        self.check_stand(at)
        return self._named[at]

    def __iter__(self):
        raise TypeError("a program is not gone through; take names")

    def __contains__(self, x):
        return is_name(x) and x in self._named

    def __len__(self):
        return len(self._named)

    def __eq__(self, other):
        return isinstance(other, Program) and list(self._named.values()) == list(other._named.values())

    def __or__(self, other):
        for name in other.names:
            if name in self and self[name] != other[name]:
                raise StateClash(name)
        united = {**self._named, **other._named}
        return Program.listed(list(united.values()))


def outcome(tests, row):
    """The index of the target to which tests lead by a row."""
    index = 0
    for test in tests:
        index = 2 * index + (1 if test in row else 0)
    return index


def address_name(address):
    """The name of the state that an address becomes."""
    return f"at{address}"


def state_at(store, address):
    """The state that does what the word at an address does; raises Blank if there is none."""
    word = store[address]
    kind = store.frame[word.kind]
    rows = store.frame.rows
    tests = [condition for condition in rows.conditions if kind.mask((condition,)) != 0]
    targets = [address_name(address)] * (1 << len(tests))
    for row in rows.possible:
        targets[outcome(tests, row)] = address_name(store.stepped(address, row))
    return State.of(address_name(address), word.signals, targets, tests)
