"""Point 14, as far as it speaks of a device watched."""

import copy
import itertools
import time
import unittest

from atanywrite.terms import term_losses
from atanywrite.watch import Watch, is_words, words_for
from tests import brute
from tests.common import (
    CAN_NOT, FULL, NOTHING_DONE, ROW, SINGLE, STILL, STRANGE, list_at_each_depth, listed, nested, refusal,
    with_strange_parts,
)
from tests.samples import SURE, SWAP, TALE

WORDS = ("do", "lose")
ROWS = [ROW, STILL, SINGLE, FULL, SWAP, SURE, TALE, *list(brute.long_rows(211)), *list(brute.small_rows())[::37]]
LONG = (
    ("a", "b", "c"), ("a", "b", "c"),
    (("f", ("a", "b"), "a"), ("g", ("b", "c"), "b"), ("h", ("c", "a"), "c")) * 2, (3,),
)


class Told:
    """A device that does deeds, as the document's words go."""

    def __init__(self, row, words):
        self.row = row
        self.play = []
        self.begun = [0] * len(row[2])
        self.spot = 0
        self.can = True
        self.held = {cell: ("old", cell) for cell in row[0]}
        for word in words:
            self.can = self.can and self.spot < len(row[2])
            if self.can:
                self.deed(word)

    def deed(self, word):
        move = self.row[2][self.spot]
        self.begun[self.spot] += 1
        if word == "do":
            self.held = brute.do(self.held, move)
            self.spot += 1
        else:
            self.held = {**self.held, move[2]: ("spoilt", len(self.play))}
            self.play.append(self.spot)
            self.spot = brute.mark_below(self.row, self.spot)


def watched(row, words):
    watch = Watch(row)
    watch.go(words)
    return watch


def all_words(many):
    for length in range(many + 1):
        yield from itertools.product(WORDS, repeat=length)


class DeedTest(unittest.TestCase):
    def test_at_first(self):
        for row in ROWS:
            watch = Watch(listed(row))
            self.assertEqual((watch.row, watch.told, watch.here, len(watch), watch.play()), (row, (), 0, 0, ()))
            self.assertEqual(watch.contents(), tuple(("old", cell) for cell in row[0]))
            self.assertEqual((watch.spoilt(), watch.begun()), ((), (0,) * len(row[2])))
            self.assertEqual(watch.end_now(), brute.end(row, ()))
            self.assertIs(watch.is_well(), True)

    def test_by_the_words(self):
        for row in ROWS:
            for words in all_words(5 if row in ROWS[:7] else 3):
                told = Told(row, words)
                watch = Watch(row)
                if told.can:
                    self.assertIsNone(watch.go(words))
                    self.check(watch, told, row, words)
                else:
                    self.assertEqual(refusal(watch.go, words), CAN_NOT)
                    self.assertEqual(watch, Watch(row))

    def check(self, watch, told, row, words):
        play = tuple(told.play)
        self.assertEqual((watch.row, watch.told, len(watch)), (row, words, len(words)))
        self.assertEqual((watch.here, watch.play(), watch.begun()), (told.spot, play, tuple(told.begun)))
        self.assertEqual(watch.contents(), brute.contents(row, told.held))
        self.assertEqual(watch.spoilt(), tuple(cell for cell in row[0] if term_losses(told.held[cell])))
        right = brute.end(row, ())
        self.assertEqual(watch.end_now(), brute.end(row, play))
        self.assertIs(watch.is_well(), brute.end(row, play) == right)
        harms = [number for number in range(told.spot, len(row[2])) if brute.end(row, (*play, number)) != right]
        self.assertEqual(watch.next_harm(), min(harms, default=None))

    def test_one_by_one(self):
        for row in ROWS[:7]:
            for words in all_words(4):
                watch = Watch(row)
                for word in words:
                    deed = watch.do if word == "do" else watch.lose
                    if watch.here == len(row[2]):
                        self.assertEqual(refusal(deed), CAN_NOT)
                        break
                    self.assertIsNone(deed())
                else:
                    self.assertEqual(watch, watched(row, words))

    def test_at_the_end(self):
        for row in ROWS[:7]:
            watch = watched(row, ("do",) * len(row[2]))
            before = watch.twin()
            for deed in (watch.do, watch.lose):
                self.assertEqual(refusal(deed), CAN_NOT)
            for words in (("do",), ["lose"], ("lose", "do")):
                self.assertEqual(refusal(watch.go, words), CAN_NOT)
            self.assertEqual(watch, before)
            self.assertIsNone(watch.go(()))
            self.assertEqual((watch, watch.here, watch.next_harm()), (before, len(row[2]), None))

    def test_all_or_none(self):
        watch = watched(SWAP, ("do", "do"))
        self.assertEqual(refusal(watch.go, ("do", "do")), CAN_NOT)
        self.assertEqual((watch.here, watch.told), (2, ("do", "do")))
        self.assertIsNone(watch.go(["lose", "do", "do", "do"]))
        self.assertEqual((watch.here, watch.told), (3, ("do", "do", "lose", "do", "do", "do")))

    def test_marks_at_the_first_and_the_last_spot(self):
        row = SWAP[:3] + ((1, 2),)
        watch = watched(row, ("do", "lose", "lose", "do", "lose"))
        self.assertEqual((watch.here, watch.play(), watch.begun()), (2, (1, 1, 2), (1, 3, 1)))


class BackTest(unittest.TestCase):
    def test_back_to_the_beginning(self):
        for row in ROWS[:7]:
            for words in all_words(4):
                if not Told(row, words).can:
                    continue
                watch = watched(row, words)
                for many in range(len(words))[::-1]:
                    self.assertIsNone(watch.back())
                    self.assertEqual(watch, watched(row, words[:many]))
                    self.assertEqual((watch.here, watch.play()), (Told(row, words[:many]).spot, tuple(Told(row, words[:many]).play)))
                self.assertEqual(refusal(watch.back), NOTHING_DONE)
                self.assertEqual(watch, Watch(row))

    def test_deeds_behind_one_taken_back(self):
        watch = watched(SWAP, ("do", "lose"))
        watch.back()
        watch.do()
        self.assertEqual((watch.told, watch.here, watch.play()), (("do", "do"), 2, ()))

    def test_a_twin_goes_its_own_way(self):
        watch = watched(SWAP, ("do", "lose"))
        twin = watch.twin()
        self.assertEqual(twin, watch)
        self.assertIsNot(twin, watch)
        twin.do()
        self.assertNotEqual(twin, watch)
        self.assertEqual((watch.told, twin.told), (("do", "lose"), ("do", "lose", "do")))
        watch.back()
        watch.back()
        self.assertEqual((watch.told, twin.told), ((), ("do", "lose", "do")))
        twin.back()
        self.assertEqual(twin, watched(SWAP, ("do", "lose")))


class ObjectTest(unittest.TestCase):
    def test_equal(self):
        self.assertIs(Watch(SWAP) == Watch(listed(SWAP)), True)
        self.assertIs(Watch(SWAP) != Watch(listed(SWAP)), False)
        self.assertIs(Watch(SWAP) == Watch(SURE), False)
        self.assertIs(Watch(SWAP) != Watch(SURE), True)
        # The same place and play, come to by other deeds.
        one, other = watched(SWAP, ("lose",)), watched(SWAP, ("do",))
        other.back()
        self.assertNotEqual(one, other)
        for thing in (None, 1, SWAP, (), "watch", [SWAP]):
            self.assertIs(Watch(SWAP) == thing, False)
            self.assertIs(Watch(SWAP) != thing, True)

    def test_no_setters(self):
        watch = Watch(SWAP)
        for name in ("row", "told", "here"):
            with self.assertRaises(AttributeError):
                setattr(watch, name, ())

    def test_no_iteration(self):
        for watch in (Watch(SWAP), watched(SWAP, ("do",))):
            for read in (iter, list, tuple, lambda own: "do" in own, lambda own: own[0], lambda own: [*own]):
                with self.assertRaises(TypeError):
                    read(watch)

    def test_what_it_is_given_is_copied(self):
        row = listed(SWAP)
        before = copy.deepcopy(row)
        words = ["do", "lose"]
        watch = Watch(row=row)
        watch.go(words=words)
        self.assertEqual((row, words), (before, ["do", "lose"]))
        row[2][0][1].append("b")
        words.append("do")
        self.assertEqual((watch.row, watch.told), (SWAP, ("do", "lose")))

    def test_kinds(self):
        watch = watched(listed(SWAP), ["do", "lose"])
        for told in (watch.row, watch.told, watch.play(), watch.contents(), watch.spoilt(), watch.begun(), watch.end_now()):
            self.assertIsInstance(told, tuple)

    def test_the_longest_are_answered_soon(self):
        started = time.perf_counter()
        for words in itertools.product(WORDS, repeat=6):
            watch = Watch(LONG)
            watch.go(words)
            for _ in range(6):
                if watch.here < 6:
                    watch.lose()
            self.assertEqual(watch.is_well(), brute.end(LONG, watch.play()) == brute.end(LONG, ()))
            watch.next_harm()
            watch.contents()
        self.assertLess(time.perf_counter() - started, 5)


class WordsTest(unittest.TestCase):
    def test_words_for(self):
        for row in ROWS:
            for play in brute.plays(row, 2):
                words = words_for(row, play)
                watch = watched(row, words)
                self.assertEqual((watch.play(), watch.here), (play, len(row[2])))
                self.assertEqual(len(words), len(brute.run(row, play)[0]))
                self.assertIs(is_words(row, words), True)
        self.assertEqual(words_for(STILL, ()), ())

    def test_is_words(self):
        for row in ROWS:
            for words in all_words(5 if row in ROWS[:7] else 3):
                self.assertIs(is_words(row, words), Told(row, words).can)
                self.assertIs(is_words(listed(row), words), Told(row, words).can)
        self.assertIs(is_words(SWAP, ("lose",) * 100), True)
        self.assertIs(is_words(SWAP, ("do",) * 100), False)

    def test_things_that_are_no_words(self):
        right = ("do", "lose", "do")
        bent = [("Do",), ("do", "loss"), ("do", ""), "do", "lose", ("do", 1), ("do", True), ("back",), nested(29), nested(28, "do")]
        for thing in [thing for thing in STRANGE if thing != ()] + bent + list_at_each_depth(right) + with_strange_parts(right):
            self.assertIs(is_words(SWAP, thing), False, thing)
        self.assertIs(is_words(STILL, ()), True)
        self.assertIs(is_words(STILL, []), False)


if __name__ == "__main__":
    unittest.main()
