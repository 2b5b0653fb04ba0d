"""Frames, stores and programs that the tests go through, the same ones at each run."""

import random

from orplaces.frames import Frame
from orplaces.kinds import Kind, Masks
from orplaces.programs import Program, State
from orplaces.rows import Rows
from orplaces.signals import Signals
from orplaces.stores import Store, Word


def some_rows(rng, conditions):
    """Rows of which about each second one is possible."""
    full = Rows.full(conditions).possible
    return Rows.of(conditions, [row for row in full if rng.random() < 0.6] or [rng.choice(full)])


def some_frame(rng, width, conditions=("a", "b"), most_kinds=3, rows=None):
    kinds = [Masks("k" + str(at), {name: rng.choice([0, 1 << rng.randrange(width), rng.randrange(1 << width)])
                                   for name in conditions}) for at in range(rng.randint(1, most_kinds))]
    return Frame(width, rows or some_rows(rng, conditions), ("x", "y"), Kind("n"), *kinds)


def some_store(rng, frame, numbers=3, full=0.6, locked=0.15):
    words = {at: Word(rng.choice(frame.kinds).name, rng.randrange(frame.size), Signals(x=rng.randrange(numbers)))
             for at in range(frame.size) if rng.random() < full}
    return Store(frame, words, locked=[at for at in range(frame.size) if rng.random() < locked])


def some_program(rng, many, conditions=("a", "b"), numbers=3, tags=(None,), most_tests=2):
    states = []
    for at in range(many):
        tests = rng.sample(conditions, rng.randint(0, min(most_tests, len(conditions))))
        targets = ["s" + str(rng.randrange(many)) for _ in range(2 ** len(tests))]
        states.append(State.of("s" + str(at), Signals(x=rng.randrange(numbers)), targets, tests, rng.choice(tags)))
    return Program.listed(states)


def some_search(rng, widths, most_states=4, numbers=2):
    """A store, a program and entries."""
    frame = some_frame(rng, rng.choice(widths), rng.choice([("a",), ("a", "b")]))
    conditions = frame.rows.conditions
    store = some_store(rng, frame, numbers, full=rng.choice([0, 0.3, 0.6, 0.9]), locked=rng.choice([0, 0.1, 0.3]))
    program = some_program(rng, rng.randint(1, most_states), conditions, numbers, tags=(None, None, "t"))
    many = min(frame.size, rng.randint(1, 2))
    return store, program, {at: rng.choice(program.names) for at in rng.sample(range(frame.size), many)}


def some_patch(rng, store, many=2):
    """A patch at addresses that are not locked."""
    free = [at for at in range(store.frame.size) if at not in store.locked]
    return {at: Word(rng.choice(store.frame.kinds).name, rng.randrange(store.frame.size), Signals(x=rng.randrange(3)))
            for at in rng.sample(free, min(len(free), rng.randint(1, many)))}


def maker(seed):
    return random.Random(seed)


def moved(address, bits):
    """The address with its bits at other places."""
    return sum(1 << bits[at] for at in range(len(bits)) if address >> at & 1)


def moved_frame(frame, bits, names, conditions):
    """The frame with its bits at other places, and other names of kinds and conditions."""
    rows = Rows.of(tuple(conditions[name] for name in frame.rows.conditions),
                   [moved_row(row, conditions) for row in frame.rows.possible])
    kinds = [Masks(names[kind.name], {conditions[name]: moved(kind((name,)), bits) for name in frame.rows.conditions})
             for kind in frame.kinds]
    return Frame.of(frame.width, rows, frame.fields, kinds)


def moved_row(row, conditions):
    return tuple(conditions[name] for name in row)


def moved_store(store, frame, bits, names):
    """The store in the moved frame."""
    words = {moved(at, bits): Word(names[word.kind], moved(word.base, bits), word.signals)
             for at, word in store.words()}
    return Store(frame, words, locked=[moved(at, bits) for at in store.locked])


def moved_signals(signals, fields):
    return Signals.of([(fields[field], number) for field, number in signals.told])


def exchanged_program(program, names, conditions, fields, tags):
    """The program with other names of states, conditions, fields and tags."""
    return Program.listed([
        State.of(names[state.name], moved_signals(state.signals, fields), [names[target] for target in state.targets],
                 [conditions[test] for test in state.tests], tags[state.tag])
        for state in [program[name] for name in program.names]])


def exchanged_store(store, bits, kinds, conditions, fields):
    """The store with its bits at other places, and other names of kinds, conditions and fields."""
    frame = moved_frame(store.frame, bits, kinds, conditions)
    frame = Frame.of(frame.width, frame.rows, tuple(fields[field] for field in frame.fields), frame.kinds)
    words = {moved(at, bits): Word(kinds[word.kind], moved(word.base, bits), moved_signals(word.signals, fields))
             for at, word in store.words()}
    return Store(frame, words, locked=[moved(at, bits) for at in store.locked])
