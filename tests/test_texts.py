import unittest

from makers import maker, some_frame, some_program, some_rows, some_search, some_store
from orplaces.equivalence import carries, parting
from orplaces.errors import OrError
from orplaces.floors import check_bar, check_floor
from orplaces.frames import Frame
from orplaces.kinds import AnyOf, Kind, Masks, Test, TestWindow, Window
from orplaces.programs import Program, State
from orplaces.reader import read_floor, read_frame, read_program, read_row, read_store, read_word
from orplaces.rows import Rows
from orplaces.runners import Runner
from orplaces.search import least
from orplaces.signals import Signals
from orplaces.stores import Store, Word
from orplaces.texts import floor_text, frame_text, program_text, row_text, signals_text, store_text, word_text


class FormsTest(unittest.TestCase):
    def test_rows(self):
        self.assertEqual([row_text(()), row_text(("a",)), row_text(("b", "a")), row_text(("x", "y", "z"))],
                         ["none", "a", "b+a", "x+y+z"])

    def test_signals(self):
        for signals in [Signals(), Signals(a=0), Signals(b=2, a=10 ** 9, self=0), Signals(self=1)]:
            text = signals_text(signals)
            self.assertEqual(str(signals), text or "none")
        self.assertEqual([signals_text(Signals()), signals_text(Signals(b=2, a=10 ** 9, c=0))], ["", "a=1000000000 b=2"])

    def test_words(self):
        for word in [Word.of("n", 0), Word.of("n", 255, b=1, a=2), Word.of("kind", 3, state=7, x=0)]:
            self.assertEqual(word_text(word), str(word))
            self.assertEqual(word_text(word), " ".join([word.kind, str(word.base), signals_text(word.signals)]).rstrip())
        self.assertEqual(word_text(Word.of("n", 255, b=1, a=2)), "n 255 a=2 b=1")

    def test_frames(self):
        frame = Frame(3, Rows(("b", "a"), ("b", "a"), ("a",)), ("y", "x"), Kind("n"), Test("t", "a", 1),
                      Window("w", 0, "a", "b"), AnyOf("any", 2, "b", "a"), TestWindow("tw", "a", 2, 0, "a"),
                      Masks("m", {"a": 5, "b": 0}))
        self.assertEqual(frame_text(frame).split("\n"), [
            "width 3", "conditions b a", "rows a b+a", "fields y x", "kind n", "kind t a=2", "kind w b=2 a=1",
            "kind any b=4 a=4", "kind tw a=5", "kind m a=5"])
        rows = [Rows(("a",), ()), Rows(("a",), ("a",)), Rows(("a",), (), ("a",)),
                Rows.full(("a", "b")).never("a", "b")]
        self.assertEqual([frame_text(Frame(1, held, ("x",), Kind("n"))).split("\n")[2] for held in rows],
                         ["rows none", "rows a", "rows all", "rows none a b"])

    def test_programs(self):
        program = Program(State("s", Signals(), "s"), State("u", Signals(b=1, a=2), "s", "u", tests=("q",), tag="t1"),
                          State("v", Signals(x=0), "u", "u", "v", "s", tests=["q", "p"]))
        self.assertEqual(program_text(program).split("\n"), [
            "state s to s", "state u a=2 b=1 if q to s u tag t1", "state v if q p to u u v s"])

    def test_stores(self):
        frame = Frame(4, Rows(("a",), ()), ("x",), Kind("n"))
        words = {10: Word.of("n", 1), 2: Word.of("n", 15, x=3)}
        for store, text in [
                (Store(frame), "blank"), (Store(frame, locked=(10, 9, 0)), "locked 0 9 10"),
                (Store(frame, words), "word 2 n 15 x=3\nword 10 n 1"),
                (Store(frame, words, locked=(2,)), "word 2 n 15 x=3\nword 10 n 1\nlocked 2")]:
            self.assertEqual(store_text(store), text)

    def test_floors(self):
        floor = (None, (("p",), ("q", "r")), ((0, 1, ()),), ())
        self.assertEqual(floor_text(floor), "bound none\nclass p\nclass q r\nparting 0 1")
        floor = (0, (("p",),), (), (7, (1,), (0, (2,))))
        self.assertEqual(floor_text(floor), "bound 0\nclass p\nknot 7 2\nknot 1 0\nknot 0 1\nknot 2 0")
        floor = (12, (("p",), ("q",)), ((0, 1, ((), ("a", "b"), ("b",))),), (3,))
        self.assertEqual(floor_text(floor), "bound 12\nclass p\nclass q\nparting 0 1 none a+b b\nknot 3 0")


def same_floor(one, other):
    """Whether two floors are equal down to the classes of their values."""
    return one == other and repr(one) == repr(other)


class ThereAndBackTest(unittest.TestCase):
    def test_rows_and_words(self):
        for seed in range(60):
            rng = maker(seed)
            for row in some_rows(rng, ("c", "a", "b")).possible:
                self.assertEqual(read_row(row_text(row)), row)
            store = some_store(rng, some_frame(rng, 3))
            for at, word in store.words():
                self.assertEqual(read_word(word_text(word)), word)
                self.assertEqual(word_text(read_word(word_text(word))), word_text(word))
        edge = Word("n", 255, Signals(a=10 ** 9, self=1, state=2))
        self.assertEqual(read_word(word_text(edge)), edge)

    def test_frames(self):
        for seed in range(150):
            rng = maker(seed)
            conditions = rng.choice([("a",), ("b", "a"), ("a", "c", "b"), ("e", "d", "c", "b", "a")])
            frame = some_frame(rng, rng.randint(1, 8), conditions)
            text = frame_text(frame)
            self.assertEqual(read_frame(text), frame)
            self.assertEqual(frame_text(read_frame(text)), text)
            full = frame.with_rows(Rows.full(conditions))
            self.assertEqual(read_frame(frame_text(full)), full)

    def test_programs(self):
        for seed in range(150):
            rng = maker(seed)
            program = some_program(rng, rng.randint(1, 24), ("e", "d", "c", "b", "a"), tags=(None, "t", "u"), most_tests=5)
            text = program_text(program)
            self.assertEqual(read_program(text), program)
            self.assertEqual(program_text(read_program(text)), text)

    def test_stores(self):
        for seed in range(150):
            rng = maker(seed)
            frame = some_frame(rng, rng.randint(1, 5))
            store = some_store(rng, frame, full=rng.choice([0, 0.5, 1]), locked=rng.choice([0, 0.3]))
            text = store_text(store)
            self.assertEqual(read_store(text, frame), store)
            self.assertEqual(store_text(read_store(text, frame)), text)

    def test_what_is_searched_for_is_the_same(self):
        counts = {"floor": 0, "none": 0, "bar": 0}
        for seed in range(200):
            rng = maker(seed)
            store, program, entries = some_search(rng, (1, 2, 2, 3), 4)
            frame = read_frame(frame_text(store.frame))
            other = read_store(store_text(store), frame)
            again = read_program(program_text(program))
            one, two = least(store, program, entries, limit=4000), least(other, again, entries, limit=4000)
            self.assertEqual([list(one.lines()), len(one), bool(one)], [list(two.lines()), len(two), bool(two)])
            if one:
                self.assertEqual([one.result, one.written, one.table], [two.result, two.written, two.table])
                self.assertIs(carries(read_store(store_text(one.result), frame), again, entries), True)
            if one.floor is None:
                counts["none"] += 1
                self.assertIsNone(two.floor)
                if not one:
                    counts["bar"] += 1
                    self.assertIs(check_bar(other, again, entries, one.bar), True)
                continue
            counts["floor"] += 1
            text = floor_text(one.floor)
            self.assertTrue(same_floor(one.floor, two.floor))
            self.assertTrue(same_floor(read_floor(text), one.floor))
            self.assertEqual(floor_text(read_floor(text)), text)
            self.assertIs(check_floor(other, again, entries, read_floor(text)), True)
        self.assertTrue(all(counts[sort] > 15 for sort in counts), counts)

    def test_deep_floors(self):
        for depth in (1, 2, 63, 64):
            tree = (0,)
            for at in range(1, depth):
                tree = (at, tree)
            floor = (None, (("s",),), (), tree)
            self.assertTrue(same_floor(read_floor(floor_text(floor)), floor))
        wide = (5, (("s",),), (), (0, *[(at,) for at in range(1000)]))
        self.assertTrue(same_floor(read_floor(floor_text(wide)), wide))

    def test_large_floors(self):
        # A floor of as many knots as a search may ask is read as well.
        frame = Frame(4, Rows.full(("a",)), ("x",), Kind("n"), Test("t", "a", 0))
        program = Program(State("p", Signals(x=1), "q", "r", tests=("a",)), State("q", Signals(x=2), "p", "r", tests=("a",)),
                          State("r", Signals(x=3), "r", "p", tests=("a",)))
        outcome = least(Store(frame), program, {0: "p"}, limit=4000)
        text = floor_text(outcome.floor)
        self.assertTrue(same_floor(read_floor(text), outcome.floor))
        self.assertIs(check_floor(Store(frame), program, {0: "p"}, read_floor(text)), True)


class WholeTest(unittest.TestCase):
    def test_programs_read_back_from_made_stores(self):
        many = 0
        for seed in range(120):
            rng = maker(seed)
            store, program, entries = some_search(rng, (2, 3), 4)
            outcome = least(store, program, entries, limit=4000)
            if not outcome:
                continue
            result, rows = outcome.result, store.frame.rows
            try:
                found = Program.of(result, *sorted(entries))
            except OrError:
                self.fail("what carries a program can be read back")
            again = read_program(program_text(found))
            self.assertEqual(again, found)
            many += 1
            for at in entries:
                self.assertIsNone(parting(again, "at" + str(at), program, entries[at], rows))
                self.assertIsNone(parting(again, "at" + str(at), result, at, rows))
            starts = {at: "at" + str(at) for at in entries}
            self.assertIs(carries(result, again, starts), True)
            self.assertEqual(len(least(result, again, starts)), 0)
            self.assertEqual(found.names, tuple("at" + str(at) for at, start, way in result.reached(rows, *sorted(entries))))
        self.assertGreater(many, 50)

    def test_from_texts_to_a_store_that_runs(self):
        frame = read_frame("width 3\nconditions go stop\nrows none go stop\nfields led\nkind n\nkind g go=1\nkind s stop=1")
        program = read_program("state off if go to off on\nstate on led=1 if stop to on off")
        outcome = least(read_store("locked 0 1", frame), program, {2: "off"})
        text = store_text(outcome.result)
        self.assertEqual(text.split("\n")[-1], "locked 0 1")
        runner = Runner(read_store(text, read_frame(frame_text(frame))), 2)
        shown = []
        for row in ["none", "go", "none", "go", "stop", "stop", "go"]:
            runner(read_row(row))
            shown.append(signals_text(runner.shown()))
        self.assertEqual(shown, ["", "led=1", "led=1", "led=1", "", "", "led=1"])
        self.assertIs(check_floor(read_store("locked 0 1", frame), program, {2: "off"}, outcome.floor), True)
