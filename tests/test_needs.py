import inspect
import unittest

from makers import maker, some_search
from naive import NaiveSearch
from orplaces.errors import InvalidAddress, InvalidNumber, NoCondition, NoEntries, NoField, NoState, NotCarried, TooLarge
from orplaces.frames import Frame
from orplaces.kinds import Kind, Test
from orplaces.needs import lock_costs, must_write
from orplaces.programs import Program, State
from orplaces.rows import Rows
from orplaces.search import least
from orplaces.signals import Signals
from orplaces.stores import Store, Word
from support import Checks, any_values

FRAME = Frame(3, Rows.full(("a",)), ("s",), Kind("n"), Test("t", "a", 0))
PROGRAM = Program(State("p", Signals(s=1), "p", "q", tests=("a",)), State("q", Signals(s=2), "q"))
SMALL = Frame(1, Rows.full(("a",)), ("s",), Kind("n"), Test("t", "a", 0))
RING = Program(State("p", Signals(s=1), "p", "q", tests=("a",)), State("q", Signals(s=2), "q", "p", tests=("a",)))
P, Q = Word("t", 2, Signals(s=1)), Word("n", 3, Signals(s=2))


def all_costs(*args, **named):
    return list(lock_costs(*args, **named))


def asked(store, program, entries):
    """How many knots are asked by a search: the least limit that it keeps."""
    return next(limit for limit in range(1, 4001) if not fails(store, program, entries, limit))


def fails(store, program, entries, limit):
    try:
        least(store, program, entries, limit=limit)
    except TooLarge:
        return True
    return False


class RefusedTest(unittest.TestCase, Checks):
    def test_limits_ahead_of_all(self):
        store, wrong = Store(FRAME), Program(State("s", Signals(y=1), "s", "s", tests=("z",)))
        for deed in (all_costs, must_write):
            for value in any_values() + [0, 4001, "9", (9,), store]:
                self.assert_error(InvalidNumber, {"value": value}, deed, store, wrong, {}, limit=value)
            self.assertEqual(len(deed(store, PROGRAM, {3: "q"}, limit=4000)), 1)
        for deed in (lock_costs, must_write):
            self.assertEqual(inspect.signature(deed).parameters["limit"].default, 2000)

    def test_as_least(self):
        store, wrong = Store(FRAME), Program(State("s", Signals(y=1), "s", "s", tests=("z",)))
        for deed in (all_costs, must_write):
            self.assert_error(NoCondition, {"name": "z"}, deed, store, wrong, {})
            self.assert_error(NoField, {"name": "y"}, deed, store, Program(State("s", Signals(y=1), "s")), {})
            self.assert_error(NoEntries, {}, deed, store, PROGRAM, {})
            self.assert_error(InvalidAddress, {"address": 8}, deed, store, PROGRAM, {8: "z", 0: "p"})
            for value in any_values() + ["z", PROGRAM]:
                self.assert_error(NoState, {"name": value}, deed, store, PROGRAM, {0: value, 8: "p"})
            self.assert_error(TooLarge, {"limit": 64}, deed, Store(FRAME.wider(4)), PROGRAM, {1: "p"})
            self.assert_error(TooLarge, {"limit": 2}, deed, store, PROGRAM, {1: "p"}, limit=2)

    def test_what_no_store_carries(self):
        ground, bar = Store(SMALL), Store(SMALL.without("t"))
        for deed in (all_costs, must_write):
            self.assert_error(NotCarried, {}, deed, ground, RING, {0: "p"})
            self.assert_error(NotCarried, {}, deed, bar, RING, {0: "p"}, limit=1)
            self.assert_error(NotCarried, {}, deed, Store(FRAME, locked=(1,)), PROGRAM, {1: "p"})
            self.assert_error(TooLarge, {"limit": 1}, deed, ground, RING, {0: "p"}, limit=1)


class LockCostsTest(unittest.TestCase, Checks):
    def test_example_of_the_document(self):
        store, entries = Store(FRAME), {1: "p"}
        self.assertEqual([all_costs(store, PROGRAM, entries), must_write(store, PROGRAM, entries)],
                         [[(1, None), (2, 3), (3, 3)], (1,)])

    def test_no_write_at_all(self):
        for locked in [(), (2,), tuple(range(8))]:
            store = Store(FRAME, {1: P, 2: P, 3: Q}, locked=locked)
            self.assertEqual([all_costs(store, PROGRAM, {1: "p"}), must_write(store, PROGRAM, {1: "p"})], [[], ()])

    def test_every_address_locked(self):
        store = Store(FRAME, {1: P, 2: P}, locked=range(8))
        for deed in (all_costs, must_write):
            self.assert_error(NotCarried, {}, deed, store, PROGRAM, {1: "p"})
            self.assert_error(NotCarried, {}, deed, Store(FRAME, locked=range(8)), PROGRAM, {1: "p"})

    def test_costs_that_are_greater(self):
        store = Store(FRAME, {1: P, 2: P})
        self.assertEqual(all_costs(store, PROGRAM, {1: "p"}), [(3, 3)])
        self.assertEqual(must_write(store, PROGRAM, {1: "p"}), (3,))
        self.assertEqual(all_costs(store.with_locks(2), PROGRAM, {1: "p"}), [(3, 3)])
        self.assertEqual(all_costs(store.with_locks(4), PROGRAM, {1: "p"}), [(3, 3)])
        self.assertEqual(all_costs(store.with_locks(4, 6), PROGRAM, {1: "p"}), [(3, None)])

    def test_by_least(self):
        costs = 0
        for seed in range(120):
            rng = maker(seed)
            store, program, entries = some_search(rng, (1, 2, 2, 3), 4)
            before = store.twin(), dict(entries)
            made = least(store, program, entries, limit=4000)
            if not made:
                self.assert_error(NotCarried, {}, all_costs, store, program, entries, limit=4000)
                continue
            wanted = []
            for at in made.written:
                locked = Store(store.frame, dict(store.words()), locked=[*store.locked, at])
                outcome = least(locked, program, entries, limit=4000)
                wanted.append((at, len(outcome.written) if outcome else None))
                self.assertTrue(not outcome or len(outcome) >= len(made))
            self.assertEqual(all_costs(store, program, entries, limit=4000), wanted)
            must = must_write(store, program, entries, limit=4000)
            self.assertEqual(must, tuple(at for at, number in wanted if number != len(made)))
            self.assertEqual((store, entries), before)
            costs += len([number for at, number in wanted if number is not None])
        self.assertGreater(costs, 25)

    def test_too_large_behind_the_items_ahead(self):
        found = 0
        for seed in range(150):
            rng = maker(seed)
            store, program, entries = some_search(rng, (2, 3), 3)
            made = least(store, program, entries, limit=4000)
            if not made or len(made) < 2:
                continue
            limit = asked(store, program, entries)
            wanted, stopped = [], False
            for at in made.written:
                if fails(store.with_locks(at), program, entries, limit):
                    stopped = True
                    break
                outcome = least(store.with_locks(at), program, entries, limit=limit)
                wanted.append((at, len(outcome) if outcome else None))
            costs = lock_costs(store, program, entries, limit=limit)
            self.assertEqual([next(costs) for _ in wanted], wanted)
            if stopped:
                found += len(wanted) > 0
                self.assert_error(TooLarge, {"limit": limit}, next, costs)
                self.assert_error(TooLarge, {"limit": limit}, must_write, store, program, entries, limit=limit)
            else:
                self.assertEqual(list(costs), [])
        self.assertGreater(found, 5)

    def test_errors_at_the_first_item(self):
        costs = lock_costs(Store(SMALL), RING, {0: "p"})
        self.assertIs(iter(costs), costs)
        self.assert_error(NotCarried, {}, next, costs)

    def test_what_is_handed_in_may_change_later(self):
        store, entries = Store(FRAME), {1: "p"}
        costs = lock_costs(store, PROGRAM, entries)
        self.assertEqual(next(costs), (1, None))
        entries[4] = "q"
        self.assertEqual(list(costs), [(2, 3), (3, 3)])
        self.assertEqual(store, Store(FRAME))


class MustWriteTest(unittest.TestCase):
    def test_against_all_made_stores(self):
        counts = {}
        for seed in range(400):
            rng = maker(seed)
            store, program, entries = some_search(rng, (1, 1, 2, 2), 3)
            search = NaiveSearch(store, program, entries)
            if len(search.signals) * len(store.frame.kinds) > 5:
                continue
            many, made = search.made_stores()
            if many is None:
                continue
            wanted = tuple(at for at in range(store.frame.size) if all(at in store.differs(other) for other in made))
            self.assertEqual(must_write(store, program, entries), wanted)
            counts[len(wanted), many] = counts.get((len(wanted), many), 0) + 1
        self.assertTrue(all(counts.get(key, 0) > 2 for key in [(0, 0), (1, 1), (2, 2), (1, 2), (0, 1)]), counts)
