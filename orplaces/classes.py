"""Classes of states that no sequence parts."""

from orplaces.errors import NoClass, NoCondition, NoState, NotPossible
from orplaces.integers import is_integer
from orplaces.names import is_name
from orplaces.rounds import Rounds


class Classes:
    """The classes of the states that are reached from given ones; never changes."""

    def __init__(self, program, rows, *states):
        check_tests(program, rows)
        self._ways = {state: (start, sequence) for state, start, sequence in program.reached(rows, *states)}
        self._steps = {state: [program.stepped(state, row) for row in rows.possible] for state in self._ways}
        looks = {state: look(program, state) for state in self._ways}
        self._rounds = Rounds(looks, self._steps, rows.possible)
        self._class_of = self._rounds.last_numbers()
        self._groups = grouped(self._class_of)
        self.program = program
        self.rows = rows
        self.states = tuple(self._ways)

    @property
    def groups(self):
        """For each class the tuple of its states."""
        return self._groups

    def number(self, state):
        """The number of the class of a state."""
        self.check_reached(state)
        return self._class_of[state]

    def signals_of(self, number):
        """The Signals of the states of a class."""
        self.check_number(number)
        return self.program.shown(self._groups[number][0])

    def tag_of(self, number):
        """The tag of the states of a class, or None."""
        self.check_number(number)
        return self.program[self._groups[number][0]].tag

    def led(self, number, row):
        """The number of the class to which a class leads by a possible row."""
        self.check_number(number)
        if row not in self.rows:
            raise NotPossible(row)
        return self.number(self.program.stepped(self._groups[number][0], row))

    def turns(self, number):
        """The numbers of the classes to which a class leads, row by row over the possible ones."""
        self.check_number(number)
        return tuple([self.number(state) for state in self._steps[self._groups[number][0]]])

    def way(self, state):
        """The given state and the sequence by which a state is met first."""
        self.check_reached(state)
        return self._ways[state]

    def parting(self, one, other):
        """The first sequence that parts two reached states, tags looked at; None if it is one class."""
        self.check_reached(one)
        self.check_reached(other)
        return self._rounds.parting(one, other)

    def partings(self):
        """For each two classes their numbers and the parting of their first states."""
        for lesser, group in enumerate(self._groups):
            for number in range(lesser + 1, len(self._groups)):
                yield lesser, number, self.parting(group[0], self._groups[number][0])

    @staticmethod
    def is_partition(program, rows, states, groups, partings):
        """Whether any values are the classes and the partings of a floor."""
        classes = Classes(program, rows, *states)
        return are_groups(classes, groups) and are_partings(classes, groups, partings)

    def check_reached(self, state):
        """Raises NoState if any value is no reached state."""
        if state not in self:
            raise NoState(state)

    def check_number(self, number):
        """Raises NoClass if any value is the number of no class."""
        if not is_integer(number, 0, len(self._groups) - 1):
            raise NoClass(number)

    def __contains__(self, x):
        return is_name(x) and x in self._ways

    def __len__(self):
        return len(self._groups)


def check_tests(program, rows):
    """Raises NoCondition for the first test of a program that is no condition of the rows."""
    for name in program.names:
        for test in program[name].tests:
            if test not in rows.conditions:
                raise NoCondition(test)


def look(program, state):
    """What is looked at in a state: its signals and its tag."""
    return program[state].signals.told, program[state].tag


def grouped(numbers):
    """For each number, ascending, the tuple of its states."""
    groups = {}
    for state in numbers:
        groups.setdefault(numbers[state], []).append(state)
    return tuple([tuple(groups[number]) for number in sorted(groups)])


def are_groups(classes, value):
    """Whether any value has the states of each class in a tuple of its own, in any order."""
    if not isinstance(value, tuple) or not all([isinstance(group, tuple) for group in value]):
        return False
    states = [state for group in value for state in group]
    if not all([state in classes for state in states]) or len(set(states)) != len(states):
        return False
    if len(states) != len(classes.states) or len(value) != len(classes):
        return False
    return all([len(set([classes.number(state) for state in group])) == 1 for group in value])


def are_partings(classes, groups, value):
    """Whether any value parts the first states of each two groups."""
    many = len(groups)
    pairs = [(lesser, number) for lesser in range(many) for number in range(lesser + 1, many)]
    if not isinstance(value, tuple) or len(value) != len(pairs):
        return False
    return all([is_parting(classes, groups, pair, part) for pair, part in zip(pairs, value)])


def is_parting(classes, groups, pair, value):
    """Whether any value is the pair with a sequence that parts the first states of its groups."""
    if not isinstance(value, tuple) or len(value) != 3:
        return False
    lesser, number = pair
    if not is_integer(value[0], lesser, lesser) or not is_integer(value[1], number, number):
        return False
    return parts(classes, groups[lesser][0], groups[number][0], value[2])


def parts(classes, one, other, value):
    """Whether any value is a sequence behind which two states have unlike signals or tags."""
    if not isinstance(value, tuple) or not all([row in classes.rows for row in value]):
        return False
    for row in value:
        one, other = classes.program.stepped(one, row), classes.program.stepped(other, row)
    return look(classes.program, one) != look(classes.program, other)
