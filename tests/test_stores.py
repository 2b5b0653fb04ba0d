import unittest

from makers import maker, moved, moved_frame, moved_store, some_frame, some_store
from orplaces.errors import Blank, InvalidAddress, InvalidWord, Locked, NotPossible, OrError, Unlike
from orplaces.frames import Frame
from orplaces.kinds import Kind, Masks, Test
from orplaces.machines import Machine
from orplaces.rows import Rows
from orplaces.signals import Signals
from orplaces.stores import Store, Word, in_trial
from support import Checks, any_values

ROWS = Rows(("a", "b"), (), ("a",), ("b",), ("a", "b"))
FRAME = Frame(3, ROWS, ("out",), Kind("n"), Test("t", "a", 0), Masks("ab", {"a": 1, "b": 2}))
NO_ADDRESSES = any_values() + [8, 255, 256, "0", (0,), [0], Signals(), Word.of("n", 0)]
NO_ROWS = any_values() + [("b", "a"), ("c",), ["a"], "a", ("a", "b", "b"), 0]


def example():
    return Store(FRAME, {0: Word.of("ab", 1, out=1), 3: Word.of("n", 3, out=2)}, locked=(6,))


def equal_frame():
    rows = Rows(("a", "b"), ("b",), (), ("a",), ("a", "b"))
    return Frame.of(3, rows, ["out"], [Masks("n", {}), Masks("t", {"a": 1}), Masks("ab", {"b": 2, "a": 1})])


def unlike_frames():
    kinds = FRAME.kinds
    return [Frame(4, ROWS, ("out",), *kinds), Frame(3, ROWS, ("in", "out"), *kinds),
            Frame(3, ROWS, ("out",), *kinds[1:]), Frame(3, Rows(("a", "b"), ()), ("out",), *kinds),
            Frame(3, Rows.full(("b", "a")), ("out",), *kinds), Frame(3, ROWS, ("out",), *kinds[::-1])]


def wrong_words():
    """Words that are none of the frame, with the part for which each is refused."""
    wrong = [(value, "word") for value in any_values() + [Signals(), "n 0", FRAME, Word]]
    return wrong + [
        (Word.of("m", 8, other=1), "kind"), (Word.of("n", 8, other=1), "base"), (Word.of("n", 255), "base"),
        (Word.of("n", 7, other=1), "signals"), (Word.of("n", 7, out=1, other=1), "signals")]


class MadeTest(unittest.TestCase, Checks):
    def test_examples_of_the_document(self):
        store = example()
        told = [store(0, ("b",)), store(0, ("a",)), list(store.path(0, [("b",), (), ("a",)])),
                list(store.path(0, [(), ()]))]
        self.assertEqual(told, [3, 1, [0, 3, 3, 3], [0, 1]])
        told = [store.blank, len(store), 3 in store, True in store, store[3]["out"]]
        self.assertEqual(told, [(1, 2, 4, 5, 6, 7), 2, True, False, 2])
        more = store | {1: store[0], 2: store[3]}
        told = [store.differs(more), len(store), more.locked, in_trial(more, lambda held: held.erase(1)), 1 in more]
        self.assertEqual(told, [(1, 2), 2, (6,), None, True])
        self.assert_error(Locked, {"address": 6}, store.write, 6, Word.of("n", 6))
        self.assert_error(Blank, {"address": 1}, store, 1, ())

    def test_blank_stores(self):
        for store in [Store(FRAME), Store(FRAME, None), Store(FRAME, {}), Store(FRAME, locked=[])]:
            self.assertEqual([store.blank, store.locked, len(store)], [tuple(range(8)), (), 0])
            self.assertEqual(list(store.words()), [])
            self.assertIsInstance(store, Machine)
            self.assertIs(store.frame, FRAME)

    def test_locked_is_ascending_once(self):
        for locked in [(7, 0, 7, 3), [3, 0, 7, 0]]:
            store = Store(FRAME, {0: Word.of("n", 0)}, locked=locked)
            self.assertEqual([store.locked, store.blank], [(0, 3, 7), tuple(range(1, 8))])
            self.assertEqual(len(locked), 4)

    def test_what_is_passed_is_copied(self):
        words, locked = {0: Word.of("n", 0)}, [1]
        store = Store(FRAME, words, locked=locked)
        words[2] = Word.of("n", 2)
        locked.append(2)
        self.assertEqual([len(store), store.locked], [1, (1,)])
        store.write(3, Word.of("n", 3))
        self.assertEqual(sorted(words), [0, 2])

    def test_wrong_addresses(self):
        word = Word.of("n", 0)
        for address in (-1, 8, 10 ** 60 - 1):
            self.assert_error(InvalidAddress, {"address": address}, Store, FRAME, {0: word, address: word})
        self.assert_error(InvalidAddress, {"address": -2}, Store, FRAME, {9: word, -1: word, -2: None})
        for address in NO_ADDRESSES:
            self.assert_error(InvalidAddress, {"address": address}, lambda: Store(FRAME, locked=(0, 7, address, 8)))
            self.assert_error(InvalidAddress, {"address": address}, lambda: Store(FRAME, {}, locked=[address, None]))

    def test_wrong_words(self):
        for word, part in wrong_words():
            self.assert_error(InvalidWord, {"part": part},
                              lambda: Store(FRAME, {7: None, 8: None, 0: word}, locked=(8,)))

    def test_the_first_key_ascending(self):
        good, bad = Word.of("n", 0), Word.of("m", 0)
        self.assert_error(InvalidWord, {"part": "kind"}, Store, FRAME, {9: good, 2: bad, 3: None, 1: good})
        self.assert_error(InvalidAddress, {"address": -1}, Store, FRAME, {0: None, -1: None})

    def test_edges_that_just_fit(self):
        wide = Frame(8, ROWS, ("out",), Kind("n"))
        store = Store(wide, {255: Word.of("n", 255), 0: Word.of("n", 0)}, locked=(255, 0))
        self.assertEqual([len(store), store.locked, len(store.blank)], [2, (0, 255), 254])
        self.assert_error(InvalidAddress, {"address": 256}, Store, wide, {256: Word.of("n", 0)})
        narrow = Frame(1, ROWS, ("out",), Kind("n"))
        self.assert_error(InvalidWord, {"part": "base"}, Store, narrow, {1: Word.of("n", 2)})
        self.assertEqual(Store(narrow, {1: Word.of("n", 1)}).blank, (0,))


class ReadTest(unittest.TestCase, Checks):
    def test_words(self):
        store = Store(FRAME, {5: Word.of("n", 0), 0: Word.of("t", 0), 3: Word.of("ab", 4)})
        self.assertEqual([(at, str(word)) for at, word in store.words()], [(0, "t 0"), (3, "ab 4"), (5, "n 0")])

    def test_item(self):
        store = example()
        self.assertEqual([str(store[0]), str(store[3])], ["ab 1 out=1", "n 3 out=2"])
        for address in store.blank:
            self.assert_error(Blank, {"address": address}, lambda: store[address])
        for address in NO_ADDRESSES:
            self.assert_error(InvalidAddress, {"address": address}, lambda: store[address])

    def test_in(self):
        store = example()
        self.assertEqual([address in store for address in range(-1, 9)],
                         [address in (0, 3) for address in range(-1, 9)])
        for value in NO_ADDRESSES + [store, store[0]]:
            self.assertIs(value in store, False)

    def test_step(self):
        store = example()
        self.assertEqual([store(0, row) for row in ROWS.possible], [1, 1, 3, 3])
        self.assertEqual([store(3, row) for row in ROWS.possible], [3, 3, 3, 3])
        few = Store(Frame(3, Rows(("a", "b"), ("b",)), ("out",), *FRAME.kinds), dict(store.words()))
        self.assertEqual(few(0, ("b",)), 3)
        for row in NO_ROWS + [(), ("a",), ("a", "b")]:
            self.assert_error(NotPossible, {"row": row}, few, 0, row)
            self.assert_error(NotPossible, {"row": row}, few, 1, row)
        for address in NO_ADDRESSES:
            self.assert_error(InvalidAddress, {"address": address}, few, address, None)
        self.assert_error(Blank, {"address": 7}, few, 7, ("b",))

    def test_path(self):
        store = example()
        self.assertEqual([list(store.path(3, ())), list(store.path(1, [])), list(store.path(1, [(), ()]))],
                         [[3], [1], [1]])
        self.assertEqual(list(store.path(0, (("a",), ("b",)))), [0, 1])
        for address in NO_ADDRESSES:
            self.assert_error(InvalidAddress, {"address": address}, lambda: list(store.path(address, [None])))
        for row in NO_ROWS:
            for address in (0, 1, 3):
                told = self.assert_error(NotPossible, {"row": row}, lambda: next(store.path(address, [(), (), row, 3])))
                self.assertIs(told.row, row)

    def test_shown_and_stepped(self):
        store = example()
        self.assertEqual([store.shown(0), store.shown(3), store.shown(1)], [Signals(out=1), Signals(out=2), None])
        rows = [(), ("b", "a"), ("a", "b"), ("b",), ("a", "q", "r", "s", "t", "u"), ("q",)]
        self.assertEqual([store.stepped(0, row) for row in rows], [1, 3, 3, 3, 1, 1])
        self.assertEqual([store.stepped(1, row) for row in rows], [None] * 6)
        for address in NO_ADDRESSES:
            self.assert_error(InvalidAddress, {"address": address}, store.shown, address)
            self.assert_error(InvalidAddress, {"address": address}, store.stepped, address, ())


class WrittenTest(unittest.TestCase, Checks):
    def test_write(self):
        store, word = example(), Word.of("t", 7)
        self.assertIsNone(store.write(7, word))
        store[0] = word
        self.assertEqual([store[7], store[0], len(store)], [word, word, 3])

    def test_refused(self):
        store, before = example(), example()
        writes = [store.write, store.__setitem__]
        for write in writes:
            for address in NO_ADDRESSES:
                self.assert_error(InvalidAddress, {"address": address}, write, address, None)
            for word, part in wrong_words():
                self.assert_error(InvalidWord, {"part": part}, write, 0, word)
                self.assert_error(Locked, {"address": 6}, write, 6, word)
        self.assertEqual(store, before)

    def test_erase(self):
        store = example()
        self.assertIsNone(store.erase(0))
        self.assertIsNone(store.erase(0))
        self.assertEqual([store.blank, len(store)], [(0, 1, 2, 4, 5, 6, 7), 1])
        self.assert_error(Locked, {"address": 6}, store.erase, 6)
        for address in NO_ADDRESSES:
            self.assert_error(InvalidAddress, {"address": address}, store.erase, address)

    def test_locked_words_stay(self):
        word = Word.of("n", 1)
        store = Store(FRAME, {1: word}, locked=[1])
        self.assert_error(Locked, {"address": 1}, store.erase, 1)
        self.assert_error(Locked, {"address": 1}, store.write, 1, word)
        self.assertEqual(store[1], word)


class ComparedTest(unittest.TestCase, Checks):
    def test_differs(self):
        one, other = example(), example()
        self.assertEqual(one.differs(other), ())
        other[7], other[1], other[3] = Word.of("n", 1), Word.of("n", 1), Word.of("n", 3, out=3)
        other.erase(0)
        self.assertEqual([one.differs(other), other.differs(one)], [(0, 1, 3, 7)] * 2)
        one.write(1, Word.of("t", 1))
        self.assertEqual(one.differs(other), (0, 1, 3, 7))
        other.write(1, Word.of("t", 1))
        self.assertEqual(one.differs(other), (0, 3, 7))

    def test_differs_by_an_equal_frame_and_other_locks(self):
        self.assertEqual(example().differs(Store(equal_frame(), locked=[0])), (0, 3))
        for frame in unlike_frames():
            self.assert_error(Unlike, {}, Store(FRAME).differs, Store(frame))

    def test_equal(self):
        words = dict(example().words())
        self.assertIs(example() == Store(equal_frame(), words, locked=[6, 6]), True)
        for other in [Store(FRAME, words), Store(FRAME, words, locked=[5]), Store(FRAME, words, locked=[5, 6]),
                      Store(FRAME, {0: words[0]}, locked=[6]), Store(FRAME, {**words, 3: words[0]}, locked=[6])]:
            self.assertIs(example() != other, True)
            self.assertIs(example() == other, False)
        for frame in unlike_frames():
            self.assertIs(Store(FRAME) == Store(frame), False)
        for value in any_values() + [words, FRAME]:
            self.assertIs(example() == value, False)
            self.assertIs(value == example(), False)


class UnitedTest(unittest.TestCase, Checks):
    def test_dict(self):
        store, word = example(), Word.of("t", 4)
        patch = {4: word, 0: word}
        more = store | patch
        self.assertEqual([more[4], more[0], more[3], len(more)], [word, word, store[3], 3])
        self.assertEqual([store, more.locked, len(patch)], [example(), (6,), 2])
        more.write(1, word)
        self.assertEqual([1 in store, 1 in patch, (store | {}) == store], [False, False, True])

    def test_store(self):
        store = example()
        other = Store(equal_frame(), {3: Word.of("t", 0), 1: Word.of("t", 1)}, locked=[0, 1, 2, 3])
        more = store | other
        self.assertEqual([(at, str(word)) for at, word in more.words()], [(0, "ab 1 out=1"), (1, "t 1"), (3, "t 0")])
        self.assertEqual([more.locked, store, len(other), (store | store) == store], [(6,), example(), 2, True])
        self.assertIs(more.frame, FRAME)

    def test_in_place(self):
        store, word = example(), Word.of("t", 4)
        same = store
        store |= {4: word}
        store |= Store(equal_frame(), {5: word}, locked=[4])
        self.assertIs(same, store)
        self.assertEqual([same[4], same[5], same.locked, len(same)], [word, word, (6,), 4])

    def united(self, store, words):
        store |= words

    def test_refused(self):
        word = Word.of("t", 4)
        wrong = [
            ({6: word}, Locked, {"address": 6}), ({8: word, 7: word}, InvalidAddress, {"address": 8}),
            ({-1: word, 6: word}, InvalidAddress, {"address": -1}), ({6: None, 8: None}, Locked, {"address": 6}),
            ({5: None, 6: word}, InvalidWord, {"part": "word"}), ({7: None, 6: None}, Locked, {"address": 6}),
            (Store(FRAME, {6: word, 5: word}), Locked, {"address": 6})]
        wrong += [({7: value, 1: word}, InvalidWord, {"part": part}) for value, part in wrong_words()]
        wrong += [(Store(frame), Unlike, {}) for frame in unlike_frames()]
        wrong += [(Store(unlike_frames()[0], {6: word, 15: word}), Unlike, {})]
        for words, error, parts in wrong:
            store = example()
            self.assert_error(error, parts, lambda: store | words)
            self.assert_error(error, parts, self.united, store, words)
            self.assertEqual(store, example())

    def test_a_locked_address_is_refused_also_for_the_same_word(self):
        word = Word.of("n", 1)
        store = Store(FRAME, {1: word}, locked=[1])
        self.assert_error(Locked, {"address": 1}, lambda: store | {1: word})
        self.assert_error(Locked, {"address": 1}, lambda: store | store)


class TwinTest(unittest.TestCase, Checks):
    def test_twin(self):
        store = example()
        twin = store.twin()
        self.assertEqual([twin == store, twin is store, twin.locked], [True, False, (6,)])
        twin.erase(0)
        store.write(1, Word.of("n", 1))
        self.assertEqual([0 in store, 1 in twin], [True, False])

    def test_with_locks(self):
        store = example()
        more = store.with_locks(7, 0, 7, 6)
        self.assertEqual([more.locked, store.locked, more.differs(store)], [(0, 6, 7), (6,), ()])
        self.assert_error(Locked, {"address": 0}, more.erase, 0)
        store.erase(0)
        self.assertEqual([0 in more, store.with_locks() == store], [True, True])
        for address in NO_ADDRESSES:
            self.assert_error(InvalidAddress, {"address": address}, store.with_locks, 1, address, 9)


class TrialTest(unittest.TestCase, Checks):
    def test_words_are_as_before(self):
        store = example()
        with store.trial() as same:
            self.assertIs(same, store)
            same.erase(0)
            same[1] = same[3]
            same |= {3: Word.of("t", 0), 7: Word.of("t", 7)}
            self.assertEqual(store.blank, (0, 2, 4, 5, 6))
        self.assertEqual([store, store is same], [example(), True])

    def test_as_they_were_when_the_block_began(self):
        store = example()
        trial = store.trial()
        store.erase(0)
        with trial:
            store.erase(3)
        self.assertEqual(store.blank, (0, 1, 2, 4, 5, 6, 7))

    def test_nested(self):
        store = example()
        with store.trial():
            store.erase(0)
            with store.trial() as inner:
                inner.erase(3)
                with store.trial():
                    inner |= {0: Word.of("n", 0), 1: Word.of("n", 1)}
                self.assertEqual(len(store), 0)
            self.assertEqual(store.blank, (0, 1, 2, 4, 5, 6, 7))
            store.write(0, Word.of("n", 7))
        self.assertEqual(store, example())

    def test_left_by_an_error(self):
        store = example()
        with self.assertRaises(Locked):
            with store.trial():
                store.erase(0)
                try:
                    with store.trial():
                        store.erase(3)
                        raise KeyError("inner")
                except KeyError:
                    self.assertEqual(store.blank, (0, 1, 2, 4, 5, 6, 7))
                store.erase(6)
        self.assertEqual(store, example())

    def test_left_early(self):
        store = example()
        for _ in range(2):
            with store.trial():
                store.erase(0)
                continue
        self.assertEqual(store, example())

    def test_writes_behind_a_block_stay(self):
        store = example()
        with store.trial():
            store.erase(0)
        store.erase(3)
        with store.trial():
            store.erase(0)
        self.assertEqual(store.blank, (1, 2, 3, 4, 5, 6, 7))

    def test_trials_of_two_stores(self):
        one, other = example(), example()
        with one.trial(), other.trial():
            one.erase(0)
            other.erase(3)
            self.assertEqual([one.blank[0], 3 in other.blank], [0, True])
        self.assertEqual([one, other], [example(), example()])

    def test_in_trial(self):
        store = example()
        seen = []

        def deed(held):
            seen.append(held)
            held.erase(0)
            return [len(held)]

        self.assertEqual(in_trial(store, deed), [1])
        self.assertIs(seen[0], store)
        self.assertEqual(store, example())
        self.assertEqual(in_trial(store, lambda held: in_trial(held, deed) + [len(held)]), [1, 2])

    def test_in_trial_left_by_an_error(self):
        store = example()

        def deed(held):
            held.erase(0)
            held.erase(6)

        self.assert_error(Locked, {"address": 6}, in_trial, store, deed)
        self.assertEqual(store, example())
        with self.assertRaises(OrError):
            in_trial(store, lambda held: held[1])


class RunTest(unittest.TestCase):
    def some_runs(self):
        """Stores with an address and a sequence."""
        for seed in range(40):
            rng = maker(seed)
            store = some_store(rng, some_frame(rng, 3), full=0.9)
            yield rng, store, rng.randrange(8), rng.choices(store.frame.rows.possible, k=6)

    def test_with_the_bits_moved(self):
        for rng, store, address, sequence in self.some_runs():
            bits, names = rng.sample(range(3), 3), {"n": "k0", "k0": "k1", "k1": "k2", "k2": "n"}
            other = moved_store(store, moved_frame(store.frame, bits, names, {"a": "a", "b": "b"}), bits, names)
            path = [moved(at, bits) for at in store.path(address, sequence)]
            self.assertEqual(list(other.path(moved(address, bits), sequence)), path)
            self.assertEqual(other.blank, tuple(sorted(moved(at, bits) for at in store.blank)))

    def test_with_one_bit_more(self):
        for rng, store, address, sequence in self.some_runs():
            wider = Store(store.frame.wider(), dict(store.words()), locked=store.locked)
            path = list(store.path(address, sequence))
            self.assertEqual(list(wider.path(address, sequence)), path)
            upper = Store(wider.frame, {at + 8: Word(word.kind, word.base + 8, word.signals)
                                        for at, word in store.words()})
            self.assertEqual(list(upper.path(address + 8, sequence)), [at + 8 for at in path])
            self.assertEqual([len(wider), upper.blank[:8]], [len(store), tuple(range(8))])

    def test_with_fewer_possible_rows(self):
        for rng, store, address, sequence in self.some_runs():
            rows = Rows.of(("a", "b"), sequence[:2])
            few = Store(store.frame.with_rows(rows), dict(store.words()), locked=store.locked)
            chosen = rng.choices(rows.possible, k=5)
            self.assertEqual(list(few.path(address, chosen)), list(store.path(address, chosen)))
            barred = [row for row in store.frame.rows.possible if row not in rows]
            for row in barred:
                with self.assertRaises(NotPossible):
                    few(address, row)
                self.assertEqual(few.stepped(address, row), store.stepped(address, row))
