import unittest

from makers import maker, some_frame, some_patch, some_store
from naive import naive_parting
from orplaces.equivalence import parting
from orplaces.errors import InvalidAddress, InvalidWord, Locked
from orplaces.frames import Frame
from orplaces.kinds import Kind, Masks, Test
from orplaces.patches import arrivals, changed, is_alone
from orplaces.rows import Rows
from orplaces.signals import Signals
from orplaces.stores import Store, Word
from support import Checks, any_values

FRAME = Frame(3, Rows.full(("a",)), ("s",), Kind("n"), Test("t", "a", 0))
P, Q = Word("t", 2, Signals(s=1)), Word("n", 3, Signals(s=2))
MADE = Store(FRAME, {1: P, 2: P, 3: Q})


def all_changed(*args):
    return list(changed(*args))


def naive_reached(store, entries):
    reached = list(dict.fromkeys(entries))
    for at in reached:
        led = [store.stepped(at, row) for row in store.frame.rows.possible if at in store]
        reached += [place for place in dict.fromkeys(led) if place not in reached]
    return sorted(reached)


class ChangedTest(unittest.TestCase, Checks):
    def test_example_of_the_document(self):
        patch = {3: Word("n", 2, Signals(s=2))}
        self.assertEqual(all_changed(MADE, patch, 1), [(1, (("a",), ())), (2, (("a",), ())), (3, ((),))])

    def test_by_trying_all_sequences(self):
        counts = {}
        for seed in range(250):
            rng = maker(seed)
            frame = some_frame(rng, rng.choice([1, 2]))
            store = some_store(rng, frame, numbers=rng.choice([1, 2, 3]), full=rng.choice([0.5, 0.9, 1]))
            patch = some_patch(rng, store)
            entries = rng.sample(range(frame.size), rng.randint(1, 2))
            before, held = store.twin(), dict(patch)
            patched = store | patch
            wanted = [(at, naive_parting(store, at, patched, at, frame.rows, 4)) for at in naive_reached(store, entries)]
            wanted = [(at, sequence) for at, sequence in wanted if sequence is not None]
            self.assertEqual(all_changed(store, patch, *entries), wanted)
            self.assertEqual([store, patch], [before, held])
            for at, sequence in wanted:
                counts[len(sequence)] = counts.get(len(sequence), 0) + 1
        self.assertTrue(all(counts.get(length, 0) > 5 for length in (0, 1, 2)), counts)

    def test_as_partings(self):
        longest = 0
        for seed in range(60):
            rng = maker(seed)
            frame = some_frame(rng, rng.choice([3, 4, 5]), ("a", "b", "c"))
            store = some_store(rng, frame, numbers=rng.choice([1, 2]), full=rng.choice([0.9, 1]))
            patch = some_patch(rng, store)
            entries = rng.sample(range(frame.size), rng.randint(1, 3))
            wanted = [(at, parting(store, at, store | patch, at, frame.rows)) for at in naive_reached(store, entries)]
            wanted = [(at, sequence) for at, sequence in wanted if sequence is not None]
            self.assertEqual(all_changed(store, patch, *entries), wanted)
            longest = max([longest, *[len(sequence) for at, sequence in wanted]])
        self.assertGreater(longest, 4)

    def test_nothing_is_changed(self):
        for patch in [{}, {2: P}, {1: P, 2: P, 3: Q}, {0: Q, 5: P, 7: Q}]:
            self.assertEqual(all_changed(MADE, patch, 1), [])
        # Other words that show and do the same: 6 and 7 are a ring like 1 and 3.
        store = MADE | {6: Word("t", 6, Signals(s=1)), 7: Word("n", 7, Signals(s=2))}
        self.assertEqual(all_changed(store, {1: Word("t", 6, Signals(s=1))}, 1), [])
        self.assertEqual(all_changed(store, {3: Word("n", 7, Signals(s=2)), 2: Word("t", 6, Signals(s=1))}, 1, 2), [])

    def test_blank_addresses(self):
        store = Store(FRAME, {1: P, 2: P})
        self.assertEqual(all_changed(store, {3: Q}, 1), [(1, (("a",),)), (2, (("a",),)), (3, ())])
        self.assertEqual(all_changed(store, {3: Q}, 3), [(3, ())])
        self.assertEqual(all_changed(store, {3: Q}, 4), [])
        self.assertEqual(all_changed(store, {4: Q}, 1, 3), [])
        # What is reached is reached in the store, not in the patched one.
        self.assertEqual(all_changed(store, {3: Word("n", 5, Signals()), 5: Q}, 1, 1),
                         [(1, (("a",),)), (2, (("a",),)), (3, ())])

    def test_reached_addresses_ascending(self):
        frame = Frame(4, Rows(("a",), ()), ("s",), Kind("n"))
        store = Store(frame, {9: Word("n", 4, Signals()), 4: Word("n", 11, Signals()), 11: Word("n", 2, Signals(s=1)),
                              2: Word("n", 2, Signals()), 1: Word("n", 11, Signals())})
        patch = {2: Word("n", 0, Signals())}
        self.assertEqual(all_changed(store, patch, 9), [(2, ((),)), (4, ((),) * 3), (9, ((),) * 4), (11, ((),) * 2)])
        self.assertEqual(all_changed(store, patch, 11, 9), all_changed(store, patch, 9, 11, 9))
        self.assertEqual(all_changed(store, patch, 11), [(2, ((),)), (11, ((),) * 2)])

    def test_only_possible_rows(self):
        few = FRAME.with_rows(Rows(("a",), ()))
        store = Store(few, {1: P, 2: P, 3: Q})
        self.assertEqual(all_changed(store, {3: P}, 1), [])
        self.assertEqual(all_changed(store, {1: Word("n", 2, Signals(s=1))}, 1), [])

    def test_refused_as_patched_stores(self):
        store = MADE.with_locks(2, 7)
        for patch, error, parts in [
                ({2: P}, Locked, {"address": 2}), ({7: Q}, Locked, {"address": 7}), ({8: Q}, InvalidAddress, {"address": 8}),
                ({-1: Q}, InvalidAddress, {"address": -1}), ({8: None, 2: None, 3: Q}, Locked, {"address": 2}),
                ({3: Q, 4: Word("m", 0, Signals())}, InvalidWord, {"part": "kind"}),
                ({4: Word("n", 8, Signals()), 5: None}, InvalidWord, {"part": "base"}),
                ({4: Word("n", 7, Signals(z=1))}, InvalidWord, {"part": "signals"})]:
            self.assert_error(error, parts, all_changed, store, patch, 1)
        for value in any_values():
            self.assert_error(InvalidWord, {"part": "word"}, all_changed, store, {1: value}, 1)
        self.assertEqual(store, MADE.with_locks(2, 7))
        found = changed(store, {2: P}, 1)
        self.assertIs(iter(found), found)
        self.assert_error(Locked, {"address": 2}, next, found)

    def test_wide(self):
        conditions = ("a", "b", "c", "d", "e")
        frame = Frame(8, Rows.full(conditions), ("s",), Masks("m", {"a": 1, "b": 2, "c": 4, "d": 8, "e": 16}), Kind("n"))
        words = {at: Word("n", (at + 1) % 256, Signals()) for at in range(256)}
        found = all_changed(Store(frame, words), {255: Word("n", 0, Signals(s=1))}, 0)
        self.assertEqual([len(found), found[0], found[-1]], [256, (0, ((),) * 255), (255, ())])
        alike = Store(frame, {at: Word("m", at // 32 * 32, Signals()) for at in range(256)})
        self.assertEqual(all_changed(alike, {0: Word("n", 9, Signals())}, 0), [])


class ArrivalsTest(unittest.TestCase):
    def test_example_of_the_document(self):
        self.assertEqual(arrivals(MADE, 1), {
            1: (), 2: ((1, ()), (2, ())), 3: ((1, ("a",)), (2, ("a",)), (3, ()), (3, ("a",)))})

    def test_by_all_steps(self):
        for seed in range(120):
            rng = maker(seed)
            frame = some_frame(rng, rng.choice([1, 2, 3]), ("a", "b"))
            store = some_store(rng, frame, full=rng.choice([0.5, 0.9]))
            entries = rng.sample(range(frame.size), rng.randint(1, 2))
            reached = naive_reached(store, entries)
            steps = [(at, row) for at in reached if at in store for row in frame.rows.possible]
            wanted = {at: tuple(step for step in steps if store(*step) == at) for at in reached}
            before = store.twin()
            found = arrivals(store, *entries)
            self.assertEqual(found, wanted)
            self.assertEqual(store, before)
            for at, row in steps:
                led = store(at, row)
                wanted = led not in entries and wanted_alone(found[led], (at, row))
                self.assertIs(is_alone(store, at, row, *entries), wanted)

    def test_blank_addresses_and_entries(self):
        store = Store(FRAME, {1: P, 2: P})
        self.assertEqual(arrivals(store, 1), {1: (), 2: ((1, ()), (2, ())), 3: ((1, ("a",)), (2, ("a",)))})
        self.assertEqual(arrivals(store, 5), {5: ()})
        self.assertEqual(arrivals(store, 5, 5, 2), {5: (), 2: ((2, ()),), 3: ((2, ("a",)),)})

    def test_what_is_returned_belongs_to_the_caller(self):
        found = arrivals(MADE, 3)
        found.clear()
        self.assertEqual(arrivals(MADE, 3), {3: ((3, ()), (3, ("a",)))})


def wanted_alone(steps, step):
    return list(steps) == [step]


class IsAloneTest(unittest.TestCase):
    FRAME = Frame(3, Rows.full(("a",)), ("s",), Kind("n"), Test("t", "a", 0))

    def test_ordinary(self):
        store = Store(self.FRAME, {0: Word("t", 2, Signals()), 2: Word("n", 5, Signals()), 3: Word("n", 3, Signals())})
        # The address 5 is blank, and 2 leads there by both rows.
        self.assertIs(is_alone(store, 0, (), 0), True)
        self.assertIs(is_alone(store, 0, ("a",), 0), False)
        self.assertIs(is_alone(store, 2, (), 0), False)
        self.assertIs(is_alone(store, 3, (), 0), False)
        self.assertIs(is_alone(store, 0, (), 0, 2), False)
        self.assertIs(is_alone(store, 0, (), 2, 0), False)
        self.assertIs(is_alone(store, 0, (), 0, 3), True)
        other = store | {3: Word("n", 6, Signals())}
        self.assertIs(is_alone(other, 0, ("a",), 0), True)
        self.assertIs(is_alone(other, 0, ("a",), 0, 0), True)

    def test_its_own_step(self):
        store = Store(self.FRAME, {0: Word("t", 0, Signals()), 1: Word("n", 7, Signals())})
        self.assertIs(is_alone(store, 0, (), 0), False)
        self.assertIs(is_alone(store, 0, ("a",), 0), True)
        turned = store | {1: Word("t", 1, Signals())}
        self.assertIs(is_alone(turned, 0, ("a",), 0), False)
        one = Store(self.FRAME.with_rows(Rows(("a",), ())), {0: Word("n", 1, Signals()), 1: Word("n", 1, Signals())})
        self.assertIs(is_alone(one, 0, (), 0), False)
        self.assertIs(is_alone(one, 1, (), 0), False)
        self.assertIs(is_alone(one, 1, (), 1), False)
        blank = Store(one.frame, {0: Word("n", 1, Signals())})
        self.assertIs(is_alone(blank, 0, (), 0), True)

    def test_a_patch_there_is_seen_by_this_step_only(self):
        found = 0
        for seed in range(300):
            rng = maker(seed)
            frame = some_frame(rng, 3, ("a", "b"))
            store = some_store(rng, frame, full=0.9, locked=0)
            entry = rng.randrange(frame.size)
            alone = [(at, row) for at in naive_reached(store, [entry]) if at in store for row in frame.rows.possible
                     if is_alone(store, at, row, entry)]
            for at, row in alone:
                led = store(at, row)
                patch = {led: Word(frame.kinds[0].name, rng.randrange(frame.size), Signals(x=7))}
                found += 1
                for place, sequence in changed(store, patch, entry):
                    places = list(store.path(place, sequence))
                    self.assertTrue(place == led or (at, row) in zip(places, sequence))
        self.assertGreater(found, 30)
