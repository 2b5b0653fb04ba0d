"""What holds between searches, certificates and patches of stores that are near to each other."""

import unittest

from makers import exchanged_program, exchanged_store, maker, moved, some_frame, some_patch, some_search, some_store
from orplaces.equivalence import carries, parting
from orplaces.errors import TooLarge
from orplaces.floors import check_bar, check_floor, check_made
from orplaces.kinds import Masks
from orplaces.patches import arrivals, changed
from orplaces.rows import Rows
from orplaces.search import least
from orplaces.signals import Signals
from orplaces.stores import Store, Word


def writes(store, program, entries):
    """The fewest writes, more than there can be if no store carries the program; None if the search is too large."""
    try:
        outcome = least(store, program, entries, limit=4000)
    except TooLarge:
        return None
    return len(outcome) if outcome else 1000


class PatchesTest(unittest.TestCase):
    def some(self):
        for seed in range(100):
            rng = maker(seed)
            store = some_store(rng, some_frame(rng, rng.choice([2, 3])), numbers=rng.choice([1, 2, 3]), full=0.9)
            yield rng, store, range(store.frame.size)

    def test_the_words_that_stand_there(self):
        for rng, store, everywhere in self.some():
            same = {at: word for at, word in store.words() if at not in store.locked}
            self.assertEqual(store | same, store)
            self.assertEqual(list(changed(store, same, *everywhere)), [])

    def test_one_behind_another(self):
        silent = 0
        for rng, store, everywhere in self.some():
            one, other = some_patch(rng, store, 1), some_patch(rng, store, 1)
            both = {**one, **other}
            patched = store | one
            self.assertEqual(patched | other, store | both)
            first = dict(changed(store, one, *everywhere))
            second = dict(changed(patched, other, *everywhere))
            together = dict(changed(store, both, *everywhere))
            for at in everywhere:
                sequences = [found[at] for found in (first, second, together) if at in found]
                silent += not sequences
                # What is first seen of both is seen of one of them, and no later.
                self.assertNotEqual(len(sequences), 1)
                if at in together:
                    self.assertIn(together[at], [found[at] for found in (first, second) if at in found
                                                 and len(found[at]) <= len(together[at])] + [together[at]])
                    self.assertTrue(any(len(found[at]) <= len(together[at]) for found in (first, second) if at in found))
        self.assertGreater(silent, 50)

    def test_back_again(self):
        for rng, store, everywhere in self.some():
            patch = some_patch(rng, store)
            back = {at: store[at] for at in patch if at in store}
            if len(back) == len(patch):
                self.assertEqual((store | patch) | back, store)
                there, here = changed(store, patch, *everywhere), changed(store | patch, back, *everywhere)
                self.assertEqual(list(there), list(here))


class ApartTest(unittest.TestCase):
    def test_a_patch_behind_a_target_changes_nothing_else(self):
        patches = 0
        for seed in range(400):
            rng = maker(seed)
            store, program, entries = some_search(rng, (2, 3), 3)
            rows = store.frame.rows
            name = rng.choice(program.names)
            index = rng.randrange(len(program[name].targets))
            other = program.apart(name, index, "other")
            taken = [row for row in rows.possible if other(name, row) == "other"]
            for at in entries:
                self.assertIsNone(parting(program, entries[at], other, entries[at], rows))
            many = writes(store, other, entries)
            if many in (None, 1000):
                continue
            made = least(store, other, entries, limit=4000)
            places = [at for at, state in made.table if state == "other"]
            for place in [at for at in places if at not in store.locked]:
                patches += 1
                # The tag keeps all other states away from there.
                self.assertEqual([state for at, state in made.table if at == place], ["other"])
                patched = made.result | {place: Word(store.frame.kinds[0].name, place, Signals(x=9))}
                for at, row in arrivals(made.result, *entries)[place]:
                    self.assertIn(row, taken)
                for _ in range(20):
                    at = rng.choice(list(entries))
                    state = entries[at]
                    while state != "other" and rng.random() < 0.9:
                        self.assertEqual(patched.shown(at), program.shown(state))
                        row = rng.choice(rows.possible)
                        if state == name and row in taken:
                            break
                        at, state = patched.stepped(at, row), other(state, row)
                for at, sequence in changed(made.result, {place: patched[place]}, *entries):
                    self.assertIn(place, list(made.result.path(at, sequence)))
        self.assertGreater(patches, 30)


class MoreAndLessTest(unittest.TestCase):
    def some(self, many=120):
        for seed in range(many):
            rng = maker(seed)
            store, program, entries = some_search(rng, (1, 2, 2), 3)
            yield rng, store, program, entries, writes(store, program, entries)

    def compare(self, lesser, greater, counts):
        if lesser is not None and greater is not None:
            self.assertLessEqual(lesser, greater)
            counts[lesser < greater] = counts.get(lesser < greater, 0) + 1

    def in_frame(self, store, frame):
        return Store(frame, dict(store.words()), locked=store.locked)

    def test_rows(self):
        counts = {}
        for rng, store, program, entries, many in self.some(250):
            rows = store.frame.rows
            if len(rows) > 1:
                fewer = Rows.of(rows.conditions, rng.sample(rows.possible, rng.randrange(1, len(rows))))
                other = self.in_frame(store, store.frame.with_rows(fewer))
                self.compare(writes(other, program, entries), many, counts)
            more = self.in_frame(store, store.frame.with_rows(Rows.full(rows.conditions)))
            self.compare(many, writes(more, program, entries), counts)
        self.assertGreater(counts[True], 20)

    def test_kinds(self):
        counts = {}
        for rng, store, program, entries, many in self.some(250):
            frame = store.frame
            kind = Masks("more", {name: rng.randrange(frame.size) for name in frame.rows.conditions})
            self.compare(writes(self.in_frame(store, frame.with_kinds(kind)), program, entries), many, counts)
            name = rng.choice(frame.kinds).name
            if all(word.kind != name for at, word in store.words()):
                self.compare(many, writes(self.in_frame(store, frame.without(name)), program, entries), counts)
        self.assertGreater(counts[True], 10)

    def test_bits(self):
        counts = {}
        for rng, store, program, entries, many in self.some(250):
            self.compare(writes(self.in_frame(store, store.frame.wider()), program, entries), many, counts)
        self.assertGreater(counts[True], 10)

    def test_entries(self):
        counts = {}
        for rng, store, program, entries, many in self.some(250):
            more = {**entries}
            more.setdefault(rng.randrange(store.frame.size), rng.choice(program.names))
            self.compare(many, writes(store, program, more), counts)
        self.assertGreater(counts[True], 20)

    def test_locks(self):
        counts = {}
        for rng, store, program, entries, many in self.some():
            self.compare(many, writes(store.with_locks(rng.randrange(store.frame.size)), program, entries), counts)
        self.assertGreater(counts[True], 10)

    def test_no_store_that_carries_is_nearer(self):
        counts = {}
        for rng, store, program, entries, many in self.some(150):
            if many in (None, 1000):
                continue
            made = least(store, program, entries, limit=4000)
            for _ in range(8):
                other = made.result
                for _ in range(rng.randint(1, 3)):
                    at = rng.randrange(store.frame.size)
                    words = [held[at] for held in (store, made.result) if at in held]
                    words += [word for place, word in made.result.words()]
                    if words and at not in store.locked:
                        other.write(at, rng.choice(words))
                if carries(other, program, entries):
                    far = len(store.differs(other))
                    self.assertGreaterEqual(far, many)
                    counts[far > many] = counts.get(far > many, 0) + 1
        self.assertTrue(all(counts[further] > 50 for further in (True, False)), counts)

    def test_bits_moved_and_names_exchanged(self):
        counts = {}
        for rng, store, program, entries, many in self.some(300):
            frame = store.frame
            bits = rng.sample(range(frame.width), frame.width)
            names = dict(zip(program.names, rng.sample(program.names, len(program))))
            kinds = dict(zip([kind.name for kind in frame.kinds], rng.sample(["u", "v", "w", "z"], len(frame.kinds))))
            conditions = dict(zip(frame.rows.conditions, rng.sample(["a", "b", "c"], len(frame.rows.conditions))))
            fields = {"x": "y", "y": "x"}
            other = exchanged_program(program, names, conditions, fields, {None: None, "t": "s"})
            turned = exchanged_store(store, bits, kinds, conditions, fields)
            starts = {moved(at, bits): names[entries[at]] for at in entries}
            self.assertEqual(writes(turned, other, starts), many)
            if many not in (None, 1000):
                result = exchanged_store(least(store, program, entries, limit=4000).result, bits, kinds, conditions, fields)
                self.assertIs(check_made(turned, other, starts, result), True)
            counts[many] = counts.get(many, 0) + 1
        self.assertTrue(all(counts.get(many, 0) > 5 for many in (0, 1, 2, 3, 1000)), counts)


class CertificatesTest(unittest.TestCase):
    def test_they_do_not_fit_what_can_be_done(self):
        floors = bars = 0
        for seed in range(300):
            rng = maker(seed)
            store, program, entries = some_search(rng, (1, 2), 3)
            if writes(store, program, entries) != 1000:
                continue
            barred = least(store, program, entries, limit=4000)
            other = Store(store.frame.wider(), dict(store.words()), locked=store.locked)
            if barred.bar is not None:
                # More addresses are no way round a bar.
                bars += 1
                self.assertIs(check_bar(other, program, entries, barred.bar), True)
                self.assertEqual(least(other, program, entries, limit=4000).bar, barred.bar)
            elif writes(other, program, entries) not in (None, 1000):
                floors += 1
                self.assertIs(check_floor(store, program, entries, barred.floor), True)
                self.assertIs(check_floor(other, program, entries, barred.floor), False)
        self.assertGreater(min(floors, bars), 10)
