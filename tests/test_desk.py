import unittest

from makers import maker, some_patch, some_search
from orplaces.classes import Classes
from orplaces.desk import Desk, listing
from orplaces.equivalence import failing, parting
from orplaces.errors import InvalidText, OrError
from orplaces.floors import check_floor
from orplaces.frames import Frame
from orplaces.kinds import Kind, Test
from orplaces.needs import must_write
from orplaces.patches import changed
from orplaces.programs import Program, State
from orplaces.reader import read_floor, read_frame, read_program, read_store
from orplaces.rows import Rows
from orplaces.search import least
from orplaces.signals import Signals
from orplaces.stores import Store, Word
from orplaces.texts import floor_text, frame_text, program_text, row_text, store_text, word_text
from support import Checks, any_values

FRAME = "frame width 2 / conditions a / rows all / fields x / kind n / kind t a=1"
PROGRAM = "program state s if a to s z / state z x=1 to z"
STORE = "store word 1 t 2 / word 2 t 2 / word 3 n 3 x=1"
# A line of each form, and the number of its words that must be there.
LINES = {
    "entry 1 s": 3, "show frame": 2, "show store": 2, "show program": 2, "show entries": 2, "word 0 n 1 x=1": 4, "erase 0": 2,
    "lock 0": 2, "lock 0 1": 2, "path 1": 2, "path 1 none a": 2, "alike 1 2": 3, "carries": 1, "classes": 1, "least": 1,
    "least 9": 1, "floor": 1, "must": 1, "make": 1, "try 3 n 2 x=1": 4, "apart s 0 q": 4,
}
NO_NUMBERS = ["", "00", "01", "-1", "+1", "1" + "0" * 20, "a", "1.0", "none", "1\n", "\n1", "0x1"]
NO_NAMES = ["", "to", "none", "A", "9a", "nine9nine", "a\n", "a+b", "a=1", "1", "\na"]
NO_PAIRS = ["", "x", "x=0", "x=01", "X=1", "x=1\n", "x==1", "=1", "none", "1", "x=" + "1" * 21]
NO_ROWS = ["", "a+a", "+", "a+", "A", "all", "a\n", "a=1", "1"]


def told(desk):
    """All that a desk keeps, as texts."""
    kept = [(desk.frame, frame_text), (desk.store, store_text), (desk.program, program_text)]
    return [None if value is None else text(value) for value, text in kept] + [desk.starts]


def ready(*lines):
    desk = Desk()
    assert desk.run(FRAME, PROGRAM, "entry 1 s", *lines)[:3] == ["ok"] * 3
    return desk


class DeskChecks(Checks):
    def refused(self, desk, line, word):
        before = told(desk)
        for deed in (desk.say, desk):
            self.assert_error(InvalidText, {"line": 0, "word": word}, deed, line)
        self.assertEqual(told(desk), before)

    def answered(self, desk, *cases):
        for line, answer in cases:
            self.assertEqual(desk.say(line), answer, line)

    def unchanged(self, desk, *cases):
        """These lines are answered so, and nothing changes."""
        for line, answer in cases:
            before = told(desk)
            self.assertEqual(desk(line), answer, line)
            self.assertEqual(told(desk), before, line)


class LinesTest(unittest.TestCase, DeskChecks):
    def test_any_value(self):
        for desk in (Desk(), ready()):
            for value in any_values() + [desk, FRAME.split(" "), Signals(), 1]:
                self.refused(desk, value, 0)
            for line in LINES:
                self.refused(desk, (line,), 0)
                self.refused(desk, " " + line, 0)
                self.refused(desk, "\n" + line, 0)
                self.refused(desk, line.upper(), 0)
            for line in ["frames x", "frame\nx", "word\n0 n 0", "ok", "Show frame", "quit", "frame\n", "none"]:
                self.refused(desk, line, 0)

    def test_words_left_out_and_too_many(self):
        for desk in (Desk(), ready()):
            for line, least_words in LINES.items():
                words = line.split(" ")
                for many in range(1, least_words):
                    self.refused(desk, " ".join(words[:many]), many)
                self.refused(desk, line + " ", len(words))
                self.refused(desk, line + " ?", len(words))
                self.refused(desk, line + "\n", len(words) - 1 if len(words) > 1 else 0)
                for index in range(1, len(words)):
                    self.refused(desk, " ".join(words[:index] + [""] + words[index:]), index)
            for line, word in [("entry 1 s s", 3), ("show frame frame", 2), ("word 0 n 1 n", 4), ("erase 0 1", 2),
                               ("path 1 1", 2), ("alike 1 2 3", 3), ("carries s", 1), ("classes 1", 1), ("least 9 9", 2),
                               ("floor 9", 1), ("must 9", 1), ("make 9", 1), ("apart s 0 q q", 4), ("show entries 1", 2),
                               ("try 3 n 2 x=1 x=1", 5), ("word 0 n 1 y=1 x=1", 5), ("try 0 n 1 y=1 x=1", 5), ("lock 0 a", 2)]:
                self.refused(desk, line, word)

    def test_texts(self):
        for desk in (Desk(), ready()):
            for line in ("frame", "store", "program"):
                self.refused(desk, line, 1)
            self.unchanged(desk, ("frame ", "refused InvalidText"), ("program ", "refused InvalidText"),
                           ("frame  ", "refused InvalidText"), ("program  x", "refused InvalidText"))
        self.unchanged(Desk(), ("store ", "refused NotReady"), ("store blank", "refused NotReady"))
        self.unchanged(ready(), ("store ", "refused InvalidText"), ("store  blank", "refused InvalidText"))

    def test_numbers_names_rows_and_signals(self):
        desk = ready()
        for word in NO_NUMBERS:
            for line, index in [("entry {} s", 1), ("word {} n 0", 1), ("word 0 n {}", 3), ("erase {}", 1), ("lock {}", 1),
                                ("lock 0 {}", 2), ("path {} a", 1), ("alike {} 1", 1), ("alike 1 {}", 2), ("try {} n 0", 1),
                                ("try 0 n {} x=1", 3), ("apart s {} q", 2), ("least {}", 1)]:
                self.refused(desk, line.format(word), index)
        for word in NO_NAMES:
            for line, index in [("entry 0 {}", 2), ("word 0 {} 0", 2), ("try 0 {} 0 x=1", 2), ("apart {} 0 q", 1), ("apart s 0 {}", 3)]:
                self.refused(desk, line.format(word), index)
        for word in NO_PAIRS:
            for line, index in [("word 0 n 0 {}", 4), ("try 0 n 0 {} y=1", 4), ("word 0 n 0 a=1 {}", 5)]:
                self.refused(desk, line.format(word), index)
        for word in NO_ROWS:
            for line, index in [("path 0 {}", 2), ("path 0 none a {} a", 4)]:
                self.refused(desk, line.format(word), index)
        for word in ["", "to", "stores", "Frame", "entry", "frame\n", "1"]:
            self.refused(desk, "show " + word, 1)

    def test_limits(self):
        desk = ready()
        for limit in ("0", "4001", "99999999999999999999", "04000", "1\n", "4000.0"):
            self.refused(desk, "least " + limit, 1)
        for limit in ("1", "3", "4000"):
            self.assertTrue(desk.say("least " + limit).startswith(("made 3: ", "refused TooLarge")))

    def test_wrong_lines_ahead_of_all_else(self):
        desk = Desk()
        self.refused(desk, "show x", 1)
        self.unchanged(desk, ("show frame", "refused NotReady"))
        self.refused(desk, "word 0 n", 3)
        self.refused(desk, "apart s 0 to", 3)


class NotReadyTest(unittest.TestCase, DeskChecks):
    def test_without_a_frame(self):
        desk = Desk()
        self.assertEqual([desk.frame, desk.store, desk.program, desk.starts], [None, None, None, {}])
        for line in [*LINES, "store blank", "store ?", "word 0 n 999 x=9999999999"]:
            self.unchanged(desk, (line, "refused NotReady"))
        self.answered(desk, (PROGRAM, "ok"))
        for line in [*LINES, "store blank"]:
            self.unchanged(desk, (line, "refused NotReady"))
        self.assertEqual([desk.frame, desk.store, program_text(desk.program)], [None, None, PROGRAM[8:].replace(" / ", "\n")])

    def test_without_a_program(self):
        desk = Desk()
        self.answered(desk, (FRAME, "ok"))
        lines = ["entry 9 z", "show program", "carries", "classes", "least", "least 9", "floor", "must", "make", "apart s 0 q"]
        for line in lines:
            self.unchanged(desk, (line, "refused NotReady"))
        self.unchanged(desk, ("show frame", FRAME[6:]), ("show store", "blank"), ("show entries", "none"), ("path 1", "1"),
                       ("alike 1 2", "alike"), ("try 3 n 2", "refused NoEntries"))
        self.answered(desk, (STORE, "ok"), ("word 0 n 1", "ok"), ("erase 0", "ok"), ("lock 0", "ok"))

    def test_without_entries(self):
        desk = Desk()
        self.answered(desk, (FRAME, "ok"), (PROGRAM, "ok"))
        for line in ("carries", "classes", "least", "floor", "must", "make", "try 3 n 2", "try 9 z 999 q=9999999999"):
            self.unchanged(desk, (line, "refused NoEntries"))
        self.unchanged(desk, ("show entries", "none"), ("show program", PROGRAM[8:]))
        # The tests and fields are looked at ahead of the entries, but for `classes`.
        self.answered(desk, ("program state s x=1 if b to s s", "ok"))
        for line, answer in [("carries", "NoCondition"), ("classes", "NoEntries"), ("least", "NoCondition")]:
            self.unchanged(desk, (line, "refused " + answer))


class DeedsTest(unittest.TestCase, DeskChecks):
    def test_example_of_the_document(self):
        desk = Desk()
        self.assertEqual(desk.run(FRAME, PROGRAM, "entry 1 s"), ["ok"] * 3)
        self.assertEqual(desk.run("carries", "least", "floor", "must", "make", "carries", "path 1 none a none"), [
            "blank 1", "made 3:   1 t 2 /   2 t 2 /   3 n 3 x=1", "bound 2 / class s / class z / parting 0 1 / knot 1 0",
            "1 2 3", "made 3", "yes", "1 2 3 3"])
        self.assertEqual(
            desk.run("alike 1 2", "alike 1 3", "try 3 n 2 x=1", "word 7 n 0", "erase 0", "lock 2 3", "word 2 n 0"),
            ["alike", "parted", "1 a none, 2 a none, 3 none", "refused InvalidAddress", "ok", "ok", "refused Locked"])
        self.assertEqual(listing(desk.store).split("\n"), ["  1  t          2", "  2* t          2", "  3* n          3 x=1"])
        self.refused(desk, "word 1 n", 3)
        self.assert_error(InvalidText, {"line": 1, "word": 4}, desk.run, "show entries", "try 3 n 2 x=01")
        self.assertEqual(desk.run("show entries", "entry 9 q", "entry 0 q", "program state s to s", "carries"),
                         ["1 s", "refused InvalidAddress", "refused NoState", "ok", "refused NoEntries"])

    def test_frame(self):
        desk = ready(STORE, "lock 1")
        self.answered(desk, (FRAME.replace("width 2", "width 3"), "ok"))
        self.assertEqual(told(desk), [FRAME[6:].replace(" / ", "\n").replace("width 2", "width 3"), "blank", None, {}])
        desk = ready(STORE, "lock 1")
        self.answered(desk, (FRAME, "ok"))
        self.assertEqual(told(desk), [FRAME[6:].replace(" / ", "\n"), "blank", None, {}])
        for line, name in [
                ("frame width 2", "InvalidText"), (FRAME + " / kind t", "InvalidText"), (FRAME[:-3] + "b=1", "InvalidText"),
                (FRAME.replace(" / ", "/"), "InvalidText"), (FRAME + " / ", "InvalidText"), (FRAME.replace("2", "9"), "InvalidFrame"),
                (FRAME.replace("conditions a", "conditions a b c d e f"), "InvalidRows"), (FRAME.replace("a=1", "a=256"), "InvalidKind"),
                (FRAME.replace("a=1", "a=4"), "InvalidFrame"), (FRAME.replace(" / ", " /  / "), "InvalidText"),
                (FRAME.replace(" / ", " / / "), "InvalidText"), (FRAME.replace(" ", "  "), "InvalidText")]:
            desk = ready(STORE)
            self.unchanged(desk, (line, "refused " + name))

    def test_newlines_in_texts(self):
        desk = Desk()
        self.answered(desk, (FRAME.replace(" / ", "\n"), "ok"), (PROGRAM.replace(" / ", "\n"), "ok"), ("show frame", FRAME[6:]),
                      (STORE.replace(" / ", "\n", 1), "ok"), ("show store", STORE[6:]), ("show program", PROGRAM[8:]))
        self.unchanged(desk, (FRAME + "\n", "refused InvalidText"), (STORE + "\n", "refused InvalidText"),
                       (PROGRAM + " / ", "refused InvalidText"), ("program \n" + PROGRAM[8:], "refused InvalidText"))

    def test_store(self):
        desk = ready("lock 0")
        self.answered(desk, (STORE + " / locked 1 2", "ok"))
        self.assertEqual(told(desk)[1:], [(STORE[6:] + " / locked 1 2").replace(" / ", "\n"),
                                          PROGRAM[8:].replace(" / ", "\n"), {1: "s"}])
        for line, name in [
                ("store word 1 n 1 / word 1 n 1", "InvalidText"), ("store blank / locked 1", "InvalidText"),
                ("store word 4 n 1", "InvalidAddress"), ("store word 1 n 4", "InvalidWord"), ("store word 1 m 1", "InvalidWord"),
                ("store word 1 n 1 y=1", "InvalidWord"), ("store locked 4", "InvalidAddress"),
                ("store word 1 n 1 x=1000000001", "InvalidNumber"), ("store word 1 n 256", "InvalidWord")]:
            self.unchanged(desk, (line, "refused " + name))
        self.answered(desk, ("store blank", "ok"))
        self.assertEqual([told(desk)[1], desk.store.locked], ["blank", ()])

    def test_program(self):
        desk = ready(STORE)
        self.answered(desk, ("program state s x=1 to s", "ok"))
        self.assertEqual(told(desk)[1:], [STORE[6:].replace(" / ", "\n"), "state s x=1 to s", {}])
        self.answered(desk, ("entry 0 s", "ok"))
        for line, name in [
                ("program state s to", "InvalidText"), ("program state s to z", "NoState"),
                ("program state s x=1000000001 to s", "InvalidNumber"), ("program state s to s / state s to s", "InvalidText"),
                ("program " + " / ".join("state s" + str(at) + " to s1" for at in range(25)), "TooMany")]:
            self.unchanged(desk, (line, "refused " + name))

    def test_entry(self):
        desk = ready()
        self.answered(desk, ("entry 3 z", "ok"), ("entry 0 s", "ok"), ("show entries", "0 s, 1 s, 3 z"), ("entry 3 s", "ok"),
                      ("show entries", "0 s, 1 s, 3 s"))
        self.assertEqual(desk.starts, {0: "s", 1: "s", 3: "s"})
        self.unchanged(desk, ("entry 4 y", "refused InvalidAddress"), ("entry 0 y", "refused NoState"),
                       ("entry 99999999999999999999 s", "refused InvalidAddress"))

    def test_word(self):
        desk = ready("lock 3")
        self.answered(desk, ("word 0 t 2", "ok"), ("word 1 n 3 x=1000000000", "ok"), ("word 0 n 1 x=7", "ok"),
                      ("show store", "word 0 n 1 x=7 / word 1 n 3 x=1000000000 / locked 3"))
        for line, name in [
                ("word 9 m 256 x=1000000001", "InvalidNumber"), ("word 9 m 256", "InvalidWord"), ("word 9 m 255", "InvalidAddress"),
                ("word 3 m 255", "Locked"), ("word 0 m 9", "InvalidWord"), ("word 0 n 4", "InvalidWord"),
                ("word 0 n 0 y=1", "InvalidWord"), ("word 0 n 99999999999999999999", "InvalidWord")]:
            self.unchanged(desk, (line, "refused " + name))

    def test_erase(self):
        desk = ready(STORE, "lock 3")
        self.answered(desk, ("erase 0", "ok"), ("erase 1", "ok"), ("erase 1", "ok"),
                      ("show store", "word 2 t 2 / word 3 n 3 x=1 / locked 3"))
        self.unchanged(desk, ("erase 3", "refused Locked"), ("erase 4", "refused InvalidAddress"))

    def test_lock(self):
        desk = ready(STORE)
        self.answered(desk, ("lock 3 0 3", "ok"), ("lock 1", "ok"), ("show store", STORE[6:] + " / locked 0 1 3"), ("lock 1", "ok"))
        self.unchanged(desk, ("lock 2 4", "refused InvalidAddress"), ("lock 4 2", "refused InvalidAddress"))
        self.assertEqual(desk.store.locked, (0, 1, 3))

    def test_make(self):
        desk = ready("word 3 n 0 x=1", "word 0 t 3 x=1")
        before = desk.store.twin()
        outcome = least(before, desk.program, desk.starts)
        self.answered(desk, ("make", f"made {len(outcome)}"), ("make", "made 0"), ("least", "made 0"), ("must", "none"),
                      ("floor", "none"), ("carries", "yes"))
        self.assertEqual([desk.store, desk.store.locked], [outcome.result, ()])
        desk = ready("lock 1")
        self.unchanged(desk, ("make", "barred"), ("least", "barred: tree 0"), ("must", "refused NotCarried"),
                       ("floor", "bound none / class s / class z / parting 0 1"), ("carries", "blank 1"))
        small = Desk()
        small.run(FRAME.replace("width 2", "width 1"), "program state s if a to s z / state z x=1 if a to z s", "entry 0 s")
        self.unchanged(small, ("least", "barred: tree 2"), ("make", "barred"), ("must", "refused NotCarried"),
                       ("floor", "bound none / class s / class z / parting 0 1 / knot 0 1 / knot 1 0"))
        few = Desk()
        few.run(FRAME.replace(" / kind t a=1", ""), PROGRAM, "entry 1 s")
        self.unchanged(few, ("least", "barred: bar 1 s"), ("make", "barred"), ("floor", "none"), ("must", "refused NotCarried"),
                       ("least 1", "barred: bar 1 s"))

    def test_apart(self):
        desk = ready("entry 2 z")
        self.answered(desk, ("apart s 1 q", "ok"))
        self.assertEqual([desk("show program"), desk.starts], [
            "state s if a to s q / state z x=1 to z / state q x=1 to z tag q", {1: "s", 2: "z"}])
        self.unchanged(desk, ("apart y 9 q", "refused NoState"), ("apart s 2 q", "refused NoTarget"), ("apart s 0 q", "refused Taken"),
                       ("apart s 99999999999999999999 w", "refused NoTarget"), ("apart z 0 s", "refused Taken"))
        self.answered(desk, ("program " + " / ".join("state s" + str(at) + " to s1" for at in range(24)), "ok"))
        self.unchanged(desk, ("apart s0 0 q", "refused TooMany"))

    def test_too_large(self):
        desk = Desk()
        desk.run(FRAME.replace("width 2", "width 7"), PROGRAM, "entry 1 s")
        for line in ("least", "least 4000", "floor", "must", "make"):
            self.unchanged(desk, (line, "refused TooLarge"))
        self.unchanged(desk, ("carries", "blank 1"), ("classes", "s, z"))
        desk = ready()
        self.unchanged(desk, ("least 2", "refused TooLarge"))

    def test_stores_and_dicts_of_the_desk(self):
        desk = ready(STORE)
        store = desk.store
        desk.starts[0] = "z"
        self.assertEqual(desk.starts, {1: "s"})
        self.assertIsNot(desk.starts, desk.starts)
        # The store is the desk's own one: what is written there is seen here.
        desk("word 0 n 0")
        self.assertIn(0, store)
        store.erase(0)
        self.answered(desk, ("show store", STORE[6:]))
        self.assertIs(desk.store, store)

    def test_run(self):
        desk = Desk()
        self.assertEqual(desk.run(), [])
        self.assert_error(InvalidText, {"line": 2, "word": 3}, desk.run, FRAME, "show store", "word 0 n", PROGRAM)
        self.assertEqual(told(desk)[1:], ["blank", None, {}])
        self.assert_error(InvalidText, {"line": 1, "word": 1}, desk.run, "word 0 n 1", "store", "erase 0")
        self.assertEqual(told(desk)[1], "word 0 n 1")
        for value in any_values():
            self.assert_error(InvalidText, {"line": 3, "word": 0}, desk.run, "erase 0", "erase 9", "word 3 n 0", value, "erase 3")
        self.assertEqual(told(desk)[1], "word 3 n 0")
        self.assertEqual(desk.run("erase 9", "show store"), ["refused InvalidAddress", "word 3 n 0"])
        self.assert_error(InvalidText, {"line": 0, "word": 0}, desk.run, FRAME.split(" "))


class QuestionsTest(unittest.TestCase, DeskChecks):
    def test_path(self):
        desk = ready(STORE)
        self.unchanged(desk, ("path 1", "1"), ("path 0 a a", "0"), ("path 1 none none a a", "1 2 2 3 3"), ("path 4", "refused InvalidAddress"),
                       ("path 1 b", "refused NotPossible"), ("path 4 b", "refused InvalidAddress"), ("path 0 a b", "refused NotPossible"),
                       ("path 1 a+b", "refused NotPossible"))
        wide = Desk()
        wide.run("frame width 3 / conditions a b / rows none b a+b / fields x / kind w a=1 b=2", "word 0 w 4")
        self.unchanged(wide, ("path 0 a+b", "0 7"), ("path 0 b", "0 6"), ("path 0 b+a", "refused NotPossible"),
                       ("path 0 a", "refused NotPossible"))

    def test_alike(self):
        desk = ready(STORE)
        self.unchanged(desk, ("alike 1 1", "alike"), ("alike 0 1", "parted"), ("alike 4 0", "refused InvalidAddress"),
                       ("alike 0 9", "refused InvalidAddress"))
        desk.run("word 0 n 1")
        self.unchanged(desk, ("alike 0 1", "parted a"), ("alike 2 0", "parted a"))
        desk.run("word 2 t 0")
        self.unchanged(desk, ("alike 0 2", "parted none a"), ("alike 1 2", "parted a"), ("alike 0 1", "parted a"))
        desk.run("word 1 n 2", "word 2 n 3")
        self.unchanged(desk, ("alike 0 1", "parted none none"), ("alike 1 2", "parted none"))

    def test_carries(self):
        desk = ready(STORE)
        self.unchanged(desk, ("carries", "yes"))
        desk.run("word 3 n 2 x=1")
        self.unchanged(desk, ("carries", "shown 1 a none"))
        desk.run("word 3 n 3 x=2")
        self.unchanged(desk, ("carries", "shown 1 a"))
        desk.run("erase 3", "entry 3 z", "entry 2 s")
        self.unchanged(desk, ("carries", "blank 3"))
        desk.run("program state u to v / state v to u tag m", "store word 0 n 0", "entry 0 u")
        self.unchanged(desk, ("carries", "shared 0 0 none"))
        desk.run("program state s x=1 if b to s s", "entry 0 s")
        self.unchanged(desk, ("carries", "refused NoCondition"), ("classes", "refused NoCondition"), ("least", "refused NoCondition"))
        desk.run("program state s y=1 to s", "entry 0 s")
        self.unchanged(desk, ("carries", "refused NoField"), ("classes", "s"), ("floor", "refused NoField"))

    def test_classes(self):
        desk = ready("program state a to c / state b if a to a d / state c to a / state d x=1 to d tag t / state e x=1 to e / state f to f")
        self.answered(desk, ("entry 3 b", "ok"), ("classes", "b, a c, d"), ("entry 0 e", "ok"), ("classes", "e, b, a c, d"),
                      ("entry 1 a", "ok"), ("classes", "e, a c, b, d"))

    def test_least_and_floor(self):
        desk = ready()
        self.unchanged(desk, ("least", "made 3:   1 t 2 /   2 t 2 /   3 n 3 x=1"), ("least 4000", desk("least")))
        self.assertEqual(read_floor(desk("floor").replace(" / ", "\n")), least(desk.store, desk.program, desk.starts).floor)
        desk.run("store blank", "lock 2")
        self.unchanged(desk, ("least", "barred: tree 1"), ("floor", "bound none / class s / class z / parting 0 1 / knot 1 0"))

    def test_try(self):
        desk = ready(STORE)
        self.unchanged(desk, ("try 3 n 3 x=1", "none"), ("try 0 n 0", "none"), ("try 3 n 3 x=2", "1 a, 2 a, 3"), ("try 1 n 2", "1 a"),
                       ("try 3 m 0", "refused InvalidWord"), ("try 4 m 0", "refused InvalidAddress"),
                       ("try 4 n 999 x=1", "refused InvalidWord"), ("try 4 n 999 x=1000000001", "refused InvalidNumber"))
        self.answered(desk, ("lock 3", "ok"))
        self.unchanged(desk, ("try 3 n 3 x=1", "refused Locked"), ("try 3 m 9", "refused Locked"))
        self.answered(desk, ("program state u to u", "ok"), ("entry 3 u", "ok"), ("entry 0 u", "ok"), ("try 1 n 2", "none"),
                      ("try 0 n 3", "0"))


def set_up(store, program, entries):
    """The lines that tell a desk all of this."""
    lines = ["frame " + frame_text(store.frame), "store " + store_text(store), "program " + program_text(program)]
    return lines + [f"entry {at} {entries[at]}" for at in entries]


def question(rng, desk):
    """Some line to ask of a desk, or to change what it keeps."""
    size = desk.frame.size
    at, other = rng.randrange(size + 1), rng.randrange(size)
    rows = [row_text(rng.choice(desk.frame.rows.possible)) for _ in range(rng.randrange(4))]
    word = f"{rng.choice(desk.frame.kinds).name} {rng.randrange(size)}" + rng.choice(["", " x=1", " x=2", " y=1"])
    name, index = rng.choice(desk.program.names), rng.randrange(3)
    return rng.choice([
        "show frame", "show store", "show program", "show entries", "carries", "classes", "least 400", "floor", "must", "make",
        f"path {at} {' '.join(rows)}".rstrip(), f"alike {at} {other}", f"try {at} {word}", f"word {at} {word}", f"erase {at}",
        f"lock {other}", f"entry {other} {name}", f"apart {name} {index} new{rng.randrange(9)}"])


class BesideTest(unittest.TestCase, DeskChecks):
    def some(self, many):
        for seed in range(many):
            rng = maker(seed)
            store, program, entries = some_search(rng, (1, 2, 2), 3)
            desk = Desk()
            lines = set_up(store, program, entries)
            self.assertEqual(desk.run(*[line.replace("\n", " / ") for line in lines]), ["ok"] * len(lines))
            yield rng, desk, store, program, entries

    def test_beside_the_functions(self):
        for rng, desk, store, program, entries in self.some(120):
            self.assertEqual([desk.frame, desk.store, desk.program, desk.starts], [store.frame, store, program, entries])
            rows = store.frame.rows
            outcome = least(store, program, entries)
            lines = " / ".join(outcome.lines())
            self.assertEqual(desk("least"), (f"made {len(outcome)}" if outcome else "barred") + (": " + lines if lines else ""))
            floor = desk("floor")
            if outcome.floor is None:
                self.assertEqual(floor, "none")
            else:
                self.assertIs(check_floor(store, program, entries, read_floor(floor.replace(" / ", "\n"))), True)
                self.assertEqual(floor, floor_text(outcome.floor).replace("\n", " / "))
            must = " ".join(map(str, must_write(store, program, entries))) if outcome else "refused NotCarried"
            self.assertEqual(desk("must"), must or "none")
            groups = Classes(program, rows, *[entries[at] for at in sorted(entries)]).groups
            self.assertEqual(desk("classes"), ", ".join(" ".join(group) for group in groups))
            reason = failing(store, program, entries)
            parts = [" ".join(map(row_text, part)) if isinstance(part, tuple) else str(part) for part in reason or ["yes"]]
            self.assertEqual(desk("carries"), " ".join(part for part in parts if part))
            one, other = rng.randrange(store.frame.size), rng.randrange(store.frame.size)
            sequence = parting(store, one, store, other, rows)
            told_rows = [row_text(row) for row in sequence or ()]
            self.assertEqual(desk(f"alike {one} {other}"), "alike" if sequence is None else " ".join(["parted", *told_rows]))
            way = [rng.choice(rows.possible) for _ in range(4)]
            self.assertEqual(desk(" ".join([f"path {one}", *map(row_text, way)])), " ".join(map(str, store.path(one, way))))
            for at, word in some_patch(rng, store, 1).items():
                found = [" ".join([str(place), *map(row_text, told_rows)])
                         for place, told_rows in changed(store, {at: word}, *entries)]
                self.assertEqual(desk(f"try {at} {word_text(word)}"), ", ".join(found) or "none")
            self.assertEqual([desk.store, desk.starts], [store, entries])
            self.assertEqual(desk("make"), f"made {len(outcome)}" if outcome else "barred")
            self.assertEqual(desk.store, outcome.result if outcome else store)

    def test_answers_are_lines(self):
        for rng, desk, store, program, entries in self.some(60):
            for _ in range(12):
                line = question(rng, desk)
                before = told(desk)
                answer = desk(line)
                self.assertIsInstance(answer, str)
                self.assertTrue(answer and "\n" not in answer)
                if answer.startswith("refused "):
                    self.assertEqual(told(desk), before)

    def test_desks_built_from_their_answers(self):
        answers = {}
        for rng, desk, store, program, entries in self.some(80):
            desk.run(*[question(rng, desk) for _ in range(rng.randrange(6))])
            second = Desk()
            second.run("frame " + desk("show frame"), "store " + desk("show store"), "program " + desk("show program"))
            if desk("show entries") != "none":
                second.run(*["entry " + entry for entry in desk("show entries").split(", ")])
            self.assertEqual(told(second), told(desk))
            for _ in range(12):
                line = question(rng, desk)
                answer = desk(line)
                self.assertEqual(second(line), answer, line)
                self.assertEqual(told(second), told(desk))
                answers[answer.split(" ")[0]] = answers.get(answer.split(" ")[0], 0) + 1
            self.assertEqual(listing(second.store), listing(desk.store))
        self.assertTrue(all(answers[first] > 5 for first in ("ok", "refused", "made", "barred", "yes", "alike", "parted")), answers)


class ListingTest(unittest.TestCase):
    def test_columns(self):
        frame = Frame(8, Rows.full(("a",)), ("x", "abcdefgh"), Kind("n"), Test("eightabc", "a", 0))
        words = {0: Word.of("n", 7), 12: Word.of("eightabc", 255, x=3, abcdefgh=10 ** 9), 255: Word.of("n", 10, x=1)}
        store = Store(frame, words, locked=(255, 3, 12, 100))
        self.assertEqual(listing(store).split("\n"), [
            "  0  n          7", "  3* blank", " 12* eightabc 255 abcdefgh=1000000000 x=3", "100* blank", "255* n         10 x=1"])
        self.assertEqual(listing(Store(frame)), "")
        self.assertEqual(listing(Store(frame, locked=(1,))), "  1* blank")
        self.assertEqual(listing(Store(frame, {1: Word.of("n", 1)})), "  1  n          1")

    def test_of_any_store(self):
        for seed in range(60):
            rng = maker(seed)
            store, program, entries = some_search(rng, (2, 3, 4), 3)
            before = store.twin()
            lines = listing(store).split("\n") if listing(store) else []
            places = [at for at in range(store.frame.size) if at in store or at in store.locked]
            self.assertEqual(len(lines), len(places))
            for at, line in zip(places, lines):
                self.assertEqual(line, line.rstrip())
                self.assertEqual([line[:3], line[3:5]], [str(at).rjust(3), "* " if at in store.locked else "  "])
                if at in store:
                    told_word = " ".join(line[5:].split())
                    self.assertEqual(told_word, word_text(store[at]))
                    self.assertEqual(line[5:17], store[at].kind.ljust(8) + " " + str(store[at].base).rjust(3))
                else:
                    self.assertEqual(line[5:], "blank")
            self.assertEqual(store, before)


class RefusalTest(unittest.TestCase):
    def test_names_of_the_errors(self):
        """What is refused is told by the name of the class of the error that the functions raise."""
        desk = ready(STORE, "lock 3")
        deeds = {
            "word 3 n 0": lambda: desk.store.twin().write(3, Word.of("n", 0)),
            "erase 9": lambda: desk.store.twin().erase(9),
            "frame width 0": lambda: read_frame("width 0"),
            "program state s to t": lambda: read_program("state s to t"),
            "store word 1 z 1": lambda: read_store("word 1 z 1", desk.frame),
            "apart z 1 q": lambda: desk.program.apart("z", 1, "q"),
            "lock 77": lambda: desk.store.with_locks(77),
            "path 1 b": lambda: list(desk.store.path(1, [("b",)])),
        }
        for line, deed in deeds.items():
            with self.assertRaises(OrError) as caught:
                deed()
            self.assertEqual(desk(line), "refused " + caught.exception.__class__.__name__)

    def test_own_objects_as_they_were(self):
        desk = ready(STORE)
        store, program = desk.store, desk.program
        for line in ("apart s 9 q", "lock 9", "store ?", "program ?", "word 9 n 0", "entry 9 s"):
            desk(line)
            self.assertIs(desk.store, store)
            self.assertIs(desk.program, program)
        self.assertEqual(desk.program, Program(State("s", Signals(), "s", "z", tests=("a",)), State("z", Signals(x=1), "z")))
