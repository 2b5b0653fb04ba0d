"""Entries: which addresses of a store are to do what which states of a program say."""

from orplaces.classes import Classes, check_tests
from orplaces.errors import NoEntries, NoField


def check_entries(store, program, entries):
    """Raises the error for which a program cannot be wanted of a store from entries, if there is one."""
    check_tests(program, store.frame.rows)
    check_fields(program, store.frame.fields)
    if not entries:
        raise NoEntries()
    for address in sorted(entries):
        store.check_stand(address)
        program.check_stand(entries[address])


def check_fields(program, fields):
    """Raises NoField for the first field that a state tells and that is none of these."""
    for name in program.names:
        for field, number in program[name].signals.told:
            if field not in fields:
                raise NoField(field)


def entry_classes(store, program, entries):
    """The classes of the entries' states, by ascending addresses."""
    rows = store.frame.rows
    states = entry_states(entries)
    return Classes(program, rows, *states)


def entry_states(entries):
    """The states of the entries, by ascending addresses."""
    return [entries[address] for address in sorted(entries)]
