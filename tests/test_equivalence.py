import unittest

from makers import maker, moved, moved_frame, moved_store, some_frame, some_program, some_rows, some_store
from naive import NaiveSearch, naive_carries, naive_parting, naive_walk, run, sequences, shown
from orplaces.classes import Classes
from orplaces.equivalence import carries, failing, is_table, parting, table, walk
from orplaces.errors import InvalidAddress, NoCondition, NoEntries, NoField, NoState, Unlike
from orplaces.frames import Frame
from orplaces.kinds import Kind, Test
from orplaces.programs import Program, State
from orplaces.rows import Rows
from orplaces.signals import Signals
from orplaces.stores import Store, Word
from support import Checks, any_values

WAIT = Program(State("a", Signals(out=1), "a", "b", tests=("go",)), State("b", Signals(out=2), "b"))
ROWS = Rows(("go",), (), ("go",))
FRAME = Frame(2, ROWS, ("out",), Kind("n"), Test("t", "go", 0))


def wait_store():
    return Store(FRAME, {0: Word("t", 0, Signals(out=1)), 1: Word("n", 1, Signals(out=2))})


def some_machine(rng, rows):
    """A machine and its stands."""
    if rng.random() < 0.5:
        program = some_program(rng, rng.randint(1, 4), numbers=2, tags=(None, "t"))
        return program, program.names
    store = some_store(rng, some_frame(rng, 2, rows=rows), numbers=2, full=0.8)
    return store, tuple(range(4))


class PartingTest(unittest.TestCase, Checks):
    def test_examples_of_the_document(self):
        store = wait_store()
        self.assertEqual((parting(WAIT, "a", store, 0, ROWS), table(WAIT, "a", store, 0, ROWS)),
                         (None, (("a", 0), ("b", 1))))
        self.assertEqual((parting(WAIT, "a", WAIT, "b", ROWS), parting(store, 0, store, 2, ROWS)), ((), ()))
        store.erase(1)
        self.assertEqual((parting(WAIT, "a", store, 0, ROWS), failing(store, WAIT, {0: "a"})),
                         ((("go",),), ("blank", 0, (("go",),))))
        one = Store(FRAME, {0: Word("n", 0, Signals(out=1))})
        twin = Program(State("u", Signals(out=1), "v"), State("v", Signals(out=1), "u", tag="mark"))
        self.assertEqual((parting(twin, "u", one, 0, ROWS), failing(one, twin, {0: "u"})),
                         (None, ("shared", 0, (), 0, ((),))))

    def test_by_trying_all_sequences(self):
        alike = 0
        for seed in range(300):
            rng = maker(seed)
            machine_rows = some_rows(rng, ("a", "b"))
            rows = rng.choice([machine_rows, some_rows(rng, ("a", "b"))])
            one, ones = some_machine(rng, machine_rows)
            other, others = rng.choice([(one, ones), some_machine(rng, machine_rows)])
            stand, other_stand = rng.choice(ones), rng.choice(others)
            told = parting(one, stand, other, other_stand, rows)
            self.assertEqual(told, naive_parting(one, stand, other, other_stand, rows, 5))
            met = table(one, stand, other, other_stand, rows)
            self.assertIs(met is None, told is not None)
            self.assertIs(is_table(one, stand, other, other_stand, rows, met), told is None)
            if told is None:
                alike += 1
                pairs = {(run(one, stand, s), run(other, other_stand, s)) for s in sequences(rows, 5)} - {(None, None)}
                self.assertEqual(met, tuple(sorted(pairs)))
        self.assertGreater(alike, 60)

    def test_blank(self):
        store = Store(FRAME, {0: Word("t", 2, Signals())})
        self.assertEqual([parting(store, 2, store, 3, ROWS), table(store, 3, store, 2, ROWS)], [None, ((3, 2),)])
        self.assertEqual(parting(store, 0, store, 2, ROWS), ())
        self.assertEqual(table(store, 0, store, 0, ROWS), ((0, 0), (2, 2), (3, 3)))
        loop = Program(State("s", Signals(), "s"))
        self.assertEqual([parting(loop, "s", store, 2, ROWS), parting(loop, "s", store, 0, ROWS)], [(), ((),)])

    def test_rows_of_one_table_only(self):
        store = wait_store()
        once = Rows(("go",), ("go",))
        none = Rows(("go",), ())
        self.assertEqual(table(WAIT, "a", store, 0, none), (("a", 0),))
        self.assertEqual(parting(WAIT, "b", store, 0, once), ())
        # The rows of a frame do not matter here.
        few = Store(FRAME.with_rows(none), {at: word for at, word in store.words()})
        self.assertEqual(table(few, 0, store, 0, ROWS), ((0, 0), (1, 1)))

    def test_conditions_that_a_program_does_not_have(self):
        other = Rows(("stop",), (), ("stop",))
        self.assertEqual(table(WAIT, "a", WAIT, "a", other), (("a", "a"),))
        self.assertEqual(parting(WAIT, "a", WAIT, "b", other), ())

    def test_tags_play_no_part(self):
        tagged = Program(State("a", Signals(out=1), "a", "b", tests=("go",), tag="u"), State("b", Signals(out=2), "b"))
        self.assertIsNone(parting(WAIT, "a", tagged, "a", ROWS))

    def test_three_starts(self):
        for seed in range(80):
            rng = maker(seed)
            rows = some_rows(rng, ("a", "b"))
            (x, p), (y, q), (z, r) = [(m, rng.choice(stands)) for m, stands in
                                      [some_machine(rng, rows) for _ in range(3)]]
            self.assertIsNone(parting(x, p, x, p, rows))
            self.assertEqual(parting(x, p, y, q, rows), parting(y, q, x, p, rows))
            told = [parting(x, p, y, q, rows), parting(y, q, z, r, rows), parting(x, p, z, r, rows)]
            self.assertNotEqual([sequence is None for sequence in told].count(False), 1)
            if None not in told:
                # The least one stands there twice.
                ordered = sorted((len(s), [rows.number(row) for row in s]) for s in told)
                self.assertEqual(ordered[0], ordered[1])

    def test_programs_of_stores_are_alike(self):
        made = 0
        for seed in range(60):
            rng = maker(seed)
            frame = some_frame(rng, 2)
            store = some_store(rng, frame, full=0.95)
            if all(at in store for at, start, sequence in store.reached(frame.rows, 0, 3)):
                made += 1
                program = Program.of(store, 0, 3)
                for at in (0, 3):
                    self.assertIsNone(parting(store, at, program, "at" + str(at), frame.rows))
                self.assertTrue(carries(store, program, {0: "at0", 3: "at3"}))
        self.assertGreater(made, 20)

    def test_long(self):
        rows = Rows(("a",), ())
        frame = Frame(8, rows, ("x",), Kind("n"))
        ring = Store(frame, {at: Word("n", (at + 1) % 256, Signals(x=1)) for at in range(256)})
        less = Store(frame, {at: Word("n", (at + 1) % 255, Signals(x=1)) for at in range(255)})
        pairs = table(ring, 0, less, 0, rows)
        self.assertEqual(len(pairs), 256 * 255)
        self.assertIs(is_table(ring, 0, less, 0, rows, pairs), True)
        less[254] = Word("n", 0, Signals(x=2))
        ring[255] = Word("n", 0, Signals(x=2))
        self.assertEqual(len(parting(ring, 0, less, 0, rows)), 254)

    def test_bits_and_names_that_are_moved(self):
        for seed in range(40):
            rng = maker(seed)
            bits, names = rng.sample(range(3), 3), {"n": "k0", "k0": "k1", "k1": "k2", "k2": "k3"}
            frame = some_frame(rng, 3)
            other_frame = moved_frame(frame, bits, names, {"a": "a", "b": "b"})
            store = some_store(rng, frame, numbers=2, full=0.9)
            other = moved_store(store, other_frame, bits, names)
            for at in range(8):
                self.assertIsNone(parting(store, at, other, moved(at, bits), frame.rows))

    def test_refused(self):
        store = wait_store()
        deeds = [parting, table, lambda *starts: is_table(*starts, None)]
        for deed in deeds:
            for rows in [Rows.full(("stop",)), Rows.full(("go", "stop"))]:
                self.assert_error(Unlike, {}, deed, store, 9, WAIT, "z", rows)
                self.assert_error(Unlike, {}, deed, WAIT, "z", store, 9, rows)
            two = Store(Frame(2, Rows.full(("a", "b")), ("x",), Kind("n")))
            self.assert_error(Unlike, {}, deed, two, 0, two, 0, Rows.full(("b", "a")))
            for value in any_values() + [4, "z", ("a",), store, WAIT]:
                self.assert_error(InvalidAddress, {"address": value}, deed, store, value, WAIT, "z", ROWS)
                self.assert_error(InvalidAddress, {"address": value}, deed, WAIT, "a", store, value, ROWS)
                self.assert_error(NoState, {"name": value}, deed, WAIT, value, store, 9, ROWS)
                self.assert_error(NoState, {"name": value}, deed, store, 0, WAIT, value, ROWS)


class TableTest(unittest.TestCase):
    def told(self, value):
        return is_table(WAIT, "a", wait_store(), 0, ROWS, value)

    def test_right(self):
        right = (("a", 0), ("b", 1))
        for value in [right, right[::-1], right * 3]:
            self.assertIs(self.told(value), True)
        store = wait_store()
        store[3] = Word("n", 1, Signals(out=2))
        more = (("b", 3), ("a", 0), ("b", 1))
        self.assertIs(is_table(WAIT, "a", store, 0, ROWS, more), True)
        self.assertIs(is_table(store, 0, store, 0, ROWS, ((2, 2), (0, 0), (1, 1), (1, 3))), True)
        self.assertIs(is_table(store, 2, store, 2, ROWS, ((2, 2),)), True)

    def test_wrong(self):
        wrong = [
            (), (("a", 0),), (("b", 1),), (("a", 0), ("b", 1), ("b", 0)), (("a", 0), ("b", 1), ("a", 1)),
            (("a", 0), ("b", 1), ("b", 2)), [("a", 0), ("b", 1)], (["a", 0], ("b", 1)), (("a", 0), ("b", True)),
            (("a", False), ("b", 1)), (("a", 0), ("b", 1), ("b", 4)), (("a", 0), ("b", 1), ("c", 1)),
            (("a", 0), ("b", 1, 1)), (("a", 0), ("b", 1), ()), (("a", 0), ("b", 1), "b1"), ((0, "a"), (1, "b")),
            (("a", 0), ("b", 1), (["b"], 1)), (("a", 0), ("b", 1), ("b", [1])), (("a", 0), ("b", 1), None)]
        for value in wrong + any_values() + [WAIT, ROWS, (WAIT,), ((WAIT, WAIT),)]:
            self.assertIs(self.told(value), False, value)

    def test_blank_pairs(self):
        store = Store(FRAME, {0: Word("t", 2, Signals())})
        for value, right in [(((0, 0), (2, 2), (3, 3)), True), (((0, 0), (2, 3), (3, 2)), False),
                             (((0, 0), (2, 2), (3, 3), (3, 2)), True), (((0, 0), (2, 2), (3, 3), (0, 2)), False),
                             (((0, 0), (2, 2)), False)]:
            self.assertIs(is_table(store, 0, store, 0, ROWS, value), right)


class CarryingTest(unittest.TestCase, Checks):
    def test_by_the_words_of_the_document(self):
        reasons = {}
        for seed in range(400):
            rng = maker(seed)
            frame = some_frame(rng, rng.choice([1, 2]))
            program = some_program(rng, rng.randint(1, 4), numbers=2, tags=(None, None, None, "t"))
            store = some_store(rng, frame, numbers=2, full=0.85)
            entries = {at: rng.choice(program.names) for at in rng.sample(range(frame.size), rng.randint(1, 2))}
            if rng.random() < 0.4 and 0 in store:
                entries = {0: "at0"}
                if all(at in store for at, start, sequence in store.reached(frame.rows, 0)):
                    program = Program.of(store, 0)
                else:
                    entries = {0: program.names[0]}
            class_of = NaiveSearch(store, program, entries).class_of
            self.assertEqual(walk(store, program, entries), naive_walk(store, program, entries))
            right = naive_carries(store, program, entries, class_of)
            self.assertIs(carries(store, program, entries), right)
            reason = self.first_reason(store, program, entries, class_of)
            self.assertEqual(failing(store, program, entries), reason)
            self.assertIs(reason is None, right)
            reasons[None if right else reason[0]] = reasons.get(None if right else reason[0], 0) + 1
        self.assertTrue(all(reasons[told] > 8 for told in [None, "blank", "shown", "shared"]), reasons)

    def first_reason(self, store, program, entries, class_of):
        """By all sequences of up to 7 rows, the entries in order for each length."""
        met, firsts = {}, {}
        for length in range(8):
            for entry in sorted(entries):
                for sequence in [s for s in sequences(store.frame.rows, length) if len(s) == length][:5000]:
                    pair = run(store, entry, sequence), run(program, entries[entry], sequence)
                    if pair[0] is None or pair in met:
                        continue
                    met[pair] = entry, sequence
                    first = firsts.setdefault(pair[0], pair)
                    if pair[0] not in store:
                        return "blank", entry, sequence
                    if shown(store, pair[0]) != shown(program, pair[1]):
                        return "shown", entry, sequence
                    if class_of[first[1]] != class_of[pair[1]]:
                        return "shared", *met[first], entry, sequence
            if len(met) == len(naive_walk(store, program, entries)):
                return None
        raise AssertionError("too long")

    def test_without_tags_it_is_being_alike(self):
        for seed in range(100):
            rng = maker(seed)
            frame = some_frame(rng, 2)
            store = some_store(rng, frame, numbers=1, full=0.9)
            program = some_program(rng, 3, numbers=1)
            entries = {at: rng.choice(program.names) for at in rng.sample(range(4), 2)}
            alike = [parting(store, at, program, entries[at], frame.rows) is None for at in entries]
            self.assertIs(carries(store, program, entries), all(alike))

    def test_shared_by_two_entries(self):
        program = Program(State("u", Signals(out=1), "u"), State("v", Signals(out=1), "v", tag="t"))
        store = Store(FRAME, {0: Word("n", 0, Signals(out=1)), 1: Word("n", 0, Signals(out=1))})
        self.assertEqual(failing(store, program, {1: "v", 0: "u"}), ("shared", 0, (), 1, ((),)))
        self.assertEqual(walk(store, program, {1: "v", 0: "u"}), ((0, "u"), (0, "v"), (1, "v")))

    def test_order_of_the_reasons(self):
        program = Program(State("u", Signals(out=1), "v", "w", tests=("go",)), State("v", Signals(out=1), "v"),
                          State("w", Signals(out=2), "w"))
        store = Store(FRAME, {0: Word("t", 2, Signals(out=1)), 2: Word("n", 2, Signals(out=2))})
        self.assertEqual(failing(store, program, {0: "u"}), ("shown", 0, ((),)))
        self.assertEqual(failing(store, program, {0: "u", 1: "v"}), ("blank", 1, ()))
        store[2] = Word("n", 1, Signals(out=1))
        self.assertEqual(failing(store, program, {0: "u"}), ("blank", 0, (("go",),)))
        store[3] = Word("n", 3, Signals(out=2))
        self.assertEqual(failing(store, program, {0: "u"}), ("blank", 0, ((), ())))
        store[1] = Word("n", 1, Signals(out=1))
        self.assertIsNone(failing(store, program, {0: "u", 2: "v"}))
        self.assertEqual(failing(store, program, {0: "v", 2: "v"}), ("shown", 0, (("go",),)))

    def test_refused(self):
        store = Store(FRAME)
        wrong = Program(State("p", Signals(y=1, x=1), "p", "p", "p", "p", tests=("go", "b")),
                        State("q", Signals(), "q", "q", tests=("a",)))
        fields = Program(State("p", Signals(out=2), "p"), State("q", Signals(y=1, x=1), "q"))
        for deed in [walk, carries, failing]:
            self.assert_error(NoCondition, {"name": "b"}, deed, store, wrong, {})
            self.assert_error(NoField, {"name": "x"}, deed, store, fields, {})
            self.assert_error(NoEntries, {}, deed, store, WAIT, {})
            for address in [-1, 4, 10 ** 60 - 1]:
                self.assert_error(InvalidAddress, {"address": address}, deed, store, WAIT, {3: "a", address: "z"}
                                  if address > 0 else {address: "z", 0: "y"})
            for value in any_values() + ["c", ("a",), WAIT["a"]]:
                self.assert_error(NoState, {"name": value}, deed, store, WAIT, {4: "a", 2: value, 1: "b"})

    def test_rows_of_the_frame(self):
        few = Store(FRAME.with_rows(Rows(("go",), ())), {0: Word("n", 0, Signals(out=1))})
        self.assertEqual([carries(few, WAIT, {0: "a"}), walk(few, WAIT, {0: "a"})], [True, ((0, "a"),)])
        self.assertFalse(carries(Store(FRAME, {0: few[0]}), WAIT, {0: "a"}))
        self.assertEqual(Classes(WAIT, few.frame.rows, "a").groups, (("a",),))

    def test_nothing_is_changed(self):
        store, entries = wait_store(), {0: "a", 1: "b"}
        for deed in [walk, carries, failing]:
            deed(store, WAIT, entries)
            self.assertEqual([store, entries], [wait_store(), {0: "a", 1: "b"}])
