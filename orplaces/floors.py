"""Looks at made stores and at certificates; searches for nothing."""

from orplaces.classes import Classes, parts
from orplaces.entries import check_entries, entry_classes, entry_states
from orplaces.equivalence import carries
from orplaces.integers import is_count
from orplaces.knots import Knot
from orplaces.stores import Store


def check_made(store, program, entries, value):
    """Whether any value is a store that is made of the given one and carries the program."""
    check_entries(store, program, entries)
    return is_made(store, value) and carries(value, program, entries)


def is_made(store, value):
    """Whether any value is a store that is made of the given one."""
    if not isinstance(value, Store) or value.frame != store.frame or value.locked != store.locked:
        return False
    return all([address in value and address not in store.locked for address in store.differs(value)])


def check_floor(store, program, entries, value):
    """Whether any value is a floor."""
    first = Knot.first(store, program, entries)
    if not isinstance(value, tuple) or len(value) != 4:
        return False
    bound, groups, partings, tree = value
    if bound is not None and not is_count(bound):
        return False
    states = entry_states(entries)
    if not Classes.is_partition(program, store.frame.rows, states, groups, partings):
        return False
    return is_tree(first.with_bound(bound), tree)


def is_tree(knot, value):
    """Whether any value is a tree of a first knot that comes to no end."""
    if knot.closed is not None:
        return value == ()
    return is_branch(knot, value)


def is_branch(knot, value):
    """Whether any value is a tree of a knot that is not closed, and comes to no end."""
    if not isinstance(value, tuple) or not value:
        return False
    asked = value[0]
    # At an end nothing waits, so no tree is one of it.
    if not is_count(asked) or asked not in knot.waiting:
        return False
    index = 1
    for case in knot.cases_at(asked):
        later = knot.behind(asked, case)
        if later.closed is None:
            if index == len(value) or not is_branch(later, value[index]):
                return False
            index += 1
    return index == len(value)


def check_bar(store, program, entries, value):
    """Whether any value is a bar."""
    check_entries(store, program, entries)
    if not isinstance(value, tuple) or len(value) != 4:
        return False
    entry, sequence, state, pairs = value
    classes = entry_classes(store, program, entries)
    if not is_count(entry) or entry not in entries or not is_sequence(classes.rows, sequence):
        return False
    if state != led_to(program, entries[entry], sequence):
        return False
    kinds = store.frame.kinds
    if not isinstance(pairs, tuple) or len(pairs) != len(kinds):
        return False
    return all([is_hidden_pair(classes, state, kind, part) for kind, part in zip(kinds, pairs)])


def is_sequence(rows, value):
    """Whether any value is a tuple of possible rows."""
    return isinstance(value, tuple) and all([row in rows for row in value])


def led_to(program, state, sequence):
    """The state to which a sequence leads from a state."""
    for row in sequence:
        state = program.stepped(state, row)
    return state


def is_hidden_pair(classes, state, kind, value):
    """Whether any value is two rows with one mask of a kind, and a sequence that parts what they lead to."""
    if not isinstance(value, tuple) or len(value) != 3:
        return False
    one, other, sequence = value
    if one not in classes.rows or other not in classes.rows or one == other or kind.mask(one) != kind.mask(other):
        return False
    return parts(classes, classes.program.stepped(state, one), classes.program.stepped(state, other), sequence)
