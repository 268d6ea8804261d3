"""Point 15: the Board."""

import copy
import itertools
import time
import unittest

from atanywrite.board import Board
from tests import brute, brute_edits
from tests.common import (
    NOTHING_DONE, ROW, SINGLE, STILL, UNFIT, known, listed, no_cell, no_number, no_row, refusal,
)
from tests.samples import SURE, SWAP
from tests.samples_board import MIX

WORDS = [("cell", "a"), ("cell", "t"), ("dead", 0), ("dead", 2), ("keeps",), ("marked", 1)]
LONG = (
    ("a", "b", "c"), ("a", "b", "c"),
    (("f", ("a", "b"), "a"), ("g", ("b", "c"), "b"), ("h", ("c", "a"), "c")) * 2, (3,),
)
QUESTIONS = ("play", "spot", "contents", "end", "words", "standing", "lost", "sure")


class Told:
    """A Board, as the document's words go: its deeds, and what is so far."""

    def __init__(self):
        self.told = {}
        self.past = []

    def do(self, word, *values):
        """The refusal of the deed; None if it is done."""
        if word == "undo":
            if not self.past:
                return NOTHING_DONE
            self.told = self.past.pop()
            return None
        now = copy.deepcopy(self.told)
        wrong = self.change(now, word, *values)
        if wrong is None:
            self.past.append(self.told)
            self.told = now
        return wrong

    def change(self, now, word, name, *values):
        if word == "put":
            if name in now:
                return known(name)
            now[name] = (values[0], (), set())
            return None
        if name not in now:
            return no_row(name)
        row, play, words = now[name]
        if word == "drop":
            del now[name]
        elif word == "rename":
            if values[0] in now and values[0] != name:
                return known(values[0])
            now[values[0]] = now.pop(name)
        elif word == "edit":
            behind = brute_edits.edited(row, values[0])
            if brute_edits.is_refused(behind):
                fields = {"NoNumber": no_number, "NoCell": no_cell, "Known": known}
                return UNFIT if behind == ("Unfit",) else fields[behind[0]](behind[1])
            now[name] = (behind, (), words)
        elif word == "lose":
            if not brute_edits.goes_on(row, play) <= values[0] < len(row[2]):
                return no_number(values[0])
            now[name] = (row, play + values, words)
        elif word == "keep":
            if not brute_edits.is_word(row, values[0]):
                return UNFIT
            words.add(values[0])
        else:
            if values[0] not in words:
                return UNFIT
            words.remove(values[0])
        return None


def answers(row, play, words):
    """What the Board ought to tell of a ROW, in the order of QUESTIONS."""
    along = brute.run(row, play)[1]
    spot = brute_edits.goes_on(row, play)
    words = sorted(words)
    return (
        play, spot, brute.contents(row, along[len(along) - 1 - (len(row[2]) - spot)]), brute.end(row, play), tuple(words),
        tuple(word for word in words if brute_edits.stands(row, word)),
        tuple(word for word in words if not brute_edits.is_word(row, word)),
        tuple(word for word in words if brute_edits.is_sure(row, play, word)),
    )


def board_of(told):
    """A new Board with what is so far."""
    board = Board()
    for name, (row, play, words) in told.items():
        board.put(name, row)
        for number in play:
            board.lose(name, number)
        for word in words:
            board.keep(name, word)
    return board


DEEDS = [
    ("put", "r", SWAP), ("put", "s", ROW), ("put", "r", STILL), ("drop", "r"), ("drop", "x"), ("rename", "r", "s"), ("rename", "r", "r"),
    ("rename", "s", "q"), ("rename", "x", "r"), ("edit", "r", ("mark", 1)), ("edit", "r", ("mark", 2)), ("edit", "r", ("remove", 2)),
    ("edit", "r", ("name", "t", "u")), ("edit", "r", ("drop", "x")), ("edit", "x", ("drop", "x")), ("lose", "r", 0), ("lose", "r", 1),
    ("lose", "r", 3), ("lose", "x", 0), ("keep", "r", ("keeps",)), ("keep", "r", ("cell", "t")), ("keep", "r", ("dead", 2)),
    ("keep", "r", ("dead", 3)), ("keep", "x", ("keeps",)), ("free", "r", ("keeps",)), ("free", "x", ("keeps",)), ("undo",),
]


class DeedTest(unittest.TestCase):
    def check(self, board, told):
        self.assertEqual((board.names, len(board), board.deeds), (tuple(sorted(told.told)), len(told.told), len(told.past)))
        for name in ("r", "s", "q", "x"):
            self.assertIs(name in board, name in told.told)
            if name in told.told:
                row, play, words = told.told[name]
                self.assertEqual(board[name], row)
                self.assertEqual(tuple(getattr(board, word)(name) for word in QUESTIONS), answers(row, play, words))

    def test_all_tuples_of_three_deeds(self):
        for start in ((), DEEDS[:1], (DEEDS[0], *DEEDS[19:22])):
            for deeds in itertools.product(DEEDS, repeat=2 if start else 3):
                board, told = Board(), Told()
                for deed in (*start, *deeds):
                    before = board.twin()
                    wrong = told.do(*deed)
                    self.assertEqual(refusal(getattr(board, deed[0]), *deed[1:]), wrong, (start, deeds))
                    if wrong is not None:
                        self.assertEqual((board, board.deeds), (before, before.deeds))
                if len(deeds) == 2:
                    self.check(board, told)

    def test_undone_one_by_one_to_the_beginning(self):
        order = [0, 1, 19, 20, 21, 9, 16, 15, 10, 6, 12, 7, 11, 24, 26, 3, 0]
        board, told = Board(), Told()
        states = [board.twin()]
        for at in order:
            wrong = told.do(*DEEDS[at])
            self.assertEqual(refusal(getattr(board, DEEDS[at][0]), *DEEDS[at][1:]), wrong)
            self.check(board, told)
            if DEEDS[at] == ("undo",):
                states.pop()
            elif wrong is None:
                states.append(board.twin())
        self.assertEqual(board.deeds, len(states) - 1)
        for state in states[-2::-1]:
            self.assertIsNone(board.undo())
            self.assertEqual((board, board.deeds), (state, state.deeds))
        self.assertEqual((board, board.names, len(board)), (Board(), (), 0))
        self.assertEqual(refusal(board.undo), NOTHING_DONE)

    def test_a_twin_in_the_middle_goes_its_own_way(self):
        board = Board()
        board.put("r", SWAP)
        board.keep("r", ("keeps",))
        twin = board.twin()
        self.assertEqual((twin == board, twin is board, twin.deeds), (True, False, 2))
        twin.lose("r", 1)
        self.assertEqual((board.play("r"), twin.play("r"), board == twin, board != twin), ((), (1,), False, True))
        board.undo()
        board.undo()
        self.assertEqual((board.names, twin.names, twin.words("r")), ((), ("r",), (("keeps",),)))
        for _ in range(3):
            twin.undo()
        self.assertEqual(twin, board)
        self.assertEqual(refusal(twin.undo), NOTHING_DONE)


class ErrorTest(unittest.TestCase):
    def test_nobodys_names_first(self):
        board = Board()
        board.put("r", SWAP)
        calls = [(getattr(board, word), ()) for word in (*QUESTIONS, "drop")]
        calls += [(board.rename, ("r",)), (board.edit, (("drop", "z"),)), (board.lose, (9,)), (board.keep, (("x",),)), (board.free, (("x",),)),
                  (board.spoilt_by, (("drop", "z"),)), (board.mended_by, (("drop", "z"),)), (board.__getitem__, ())]
        for name in ("x", "rr"):
            for method, more in calls:
                self.assertEqual(refusal(method, name, *more), no_row(name))
        self.assertEqual((board.deeds, board.names), (1, ("r",)))

    def test_refusals(self):
        board = Board()
        board.put("r", SURE)
        board.put("s", STILL)
        board.lose("r", 2)
        twin = board.twin()
        for call, told in (
            ((board.put, "r", ROW), known("r")), ((board.rename, "r", "s"), known("s")), ((board.edit, "r", ("mark", 1)), no_number(1)),
            ((board.edit, "r", ("want", "a")), UNFIT), ((board.lose, "r", 1), no_number(1)), ((board.lose, "r", 3), no_number(3)),
            ((board.lose, "s", 0), no_number(0)), ((board.keep, "r", ("cell", "x")), UNFIT), ((board.keep, "r", ("made", 1)), UNFIT),
            ((board.free, "r", ("keeps",)), UNFIT), ((board.spoilt_by, "r", ("cell", "a")), known("a")),
            ((board.mended_by, "r", ("drop", "z")), no_cell("z")), ((board.keep, "s", ("dead", 0)), UNFIT),
        ):
            self.assertEqual(refusal(*call), told)
            self.assertEqual((board, board.deeds), (twin, 3))

    def test_spoilt_and_mended(self):
        edits = [("mark", 1), ("mark", 2), ("clear", 1), ("remove", 0), ("remove", 2), ("name", "t", "u"), ("name", "a", "z"), ("leave", "a"), ("swap", 0)]
        for row in (SWAP, SURE, SWAP[:3] + ((1,),)):
            board = Board()
            board.put("r", row)
            for word in WORDS:
                board.keep("r", word)
            for first, edit in itertools.product([None, *edits], edits):
                own = board.twin()
                if first is not None:
                    if refusal(own.edit, "r", first) is not None:
                        continue
                    self.assertEqual(own.words("r"), tuple(WORDS))
                behind = brute_edits.edited(own["r"], edit)
                if brute_edits.is_refused(behind):
                    self.assertIsNotNone(refusal(own.spoilt_by, "r", edit))
                    self.assertEqual(refusal(own.spoilt_by, "r", edit), refusal(own.mended_by, "r", edit))
                    continue
                now = [brute_edits.stands(own["r"], word) for word in WORDS]
                then = [brute_edits.stands(behind, word) for word in WORDS]
                spoilt = tuple(word for word, one, two in zip(WORDS, now, then) if one and not two)
                mended = tuple(word for word, one, two in zip(WORDS, now, then) if two and not one)
                self.assertEqual((own.spoilt_by("r", edit), own.mended_by("r", list(edit))), (spoilt, mended))


class SureTest(unittest.TestCase):
    def test_by_all_plays_that_begin_so(self):
        rows = [SWAP, SURE, ROW, MIX, SWAP[:3] + ((1,),), *list(brute.small_rows())[::43], *list(brute.long_rows(173))]
        for row in rows:
            words = [("keeps",), *[("cell", cell) for cell in row[0]], ("marked", 0)]
            for play in brute.plays(row, 2):
                board = board_of({"r": (row, play, words)})
                told = board.sure("r")
                self.assertEqual(told, tuple(sorted(word for word in words if brute_edits.is_sure(row, play, word))), (row, play))
                # What it is sure of stays so behind a further loss.
                for number in range(board.spot("r"), len(row[2])):
                    later = board.twin()
                    later.lose("r", number)
                    self.assertLessEqual(set(told), set(later.sure("r")))

    def test_sure_of_what_does_not_stand(self):
        row = (("a", "b", "c"), ("a", "b", "c"), (("f", ("a",), "b"), ("g", ("b",), "a"), ("h", ("b",), "c")), (2,))
        board = board_of({"r": (row, (), [("keeps",)])})
        self.assertEqual((board.standing("r"), board.sure("r")), ((), ()))
        board.lose("r", 2)
        self.assertEqual((board.standing("r"), board.sure("r"), board.spot("r")), ((), (("keeps",),), 2))


class ObjectTest(unittest.TestCase):
    def test_new(self):
        board = Board()
        self.assertEqual((board.names, board.deeds, len(board), "a" in board, board == Board()), ((), 0, 0, False, True))

    def test_four_rows(self):
        board = Board()
        for name, row in zip("dbca", (ROW, STILL, SINGLE, SWAP)):
            board.put(name, row)
        self.assertEqual((board.names, len(board), board.deeds), (("a", "b", "c", "d"), 4, 4))
        self.assertEqual((board["a"], board["d"], "c" in board, "e" in board), (SWAP, ROW, True, False))

    def test_equal(self):
        one, other = Board(), Board()
        one.put("r", SWAP)
        self.assertNotEqual(one, other)
        other.put("s", SWAP)
        self.assertNotEqual(one, other)
        other.rename("s", "r")
        # The deeds that led here are not asked for.
        self.assertEqual((one == other, one != other, one.deeds, other.deeds), (True, False, 1, 2))
        one.keep("r", ("keeps",))
        self.assertNotEqual(one, other)
        other.keep("r", ("keeps",))
        one.lose("r", 0)
        self.assertNotEqual(one, other)
        for thing in (None, 1, {}, (), "board", [one]):
            self.assertIs(one == thing, False)
            self.assertIs(one != thing, True)
        # In whichever order they were put.
        two, three = Board(), Board()
        for name in "ab":
            two.put(name, SWAP)
        for name in "ba":
            three.put(name, SWAP)
        self.assertEqual(two, three)

    def test_no_setters(self):
        board = Board()
        for name in ("names", "deeds"):
            with self.assertRaises(AttributeError):
                setattr(board, name, ())

    def test_no_iteration(self):
        for board in (Board(), board_of({"r": (SWAP, (), ())})):
            for read in (iter, list, tuple, sorted, lambda own: [*own], dict.fromkeys):
                with self.assertRaises(TypeError):
                    read(board)

    def test_lists_for_tuples_and_by_name(self):
        row, word, edit = listed(SWAP), ["cell", "a"], ["insert", 0, ["f", ["a"], "b"]]
        board, other = Board(), Board()
        board.put(name="r", row=row)
        board.keep(name="r", word=word)
        board.edit(name="r", edit=edit)
        board.lose(name="r", number=1)
        board.rename(name="r", new="s")
        self.assertEqual((row, word, edit), (listed(SWAP), ["cell", "a"], ["insert", 0, ["f", ["a"], "b"]]))
        other.put("s", SWAP)
        other.keep("s", ("cell", "a"))
        other.edit("s", ("insert", 0, ("f", ("a",), "b")))
        other.lose("s", 1)
        self.assertEqual(board, other)
        row[2].clear()
        word.append("b")
        edit[2][1].append("b")
        self.assertEqual((board, board["s"]), (other, other["s"]))
        board.free(name="s", word=["cell", "a"])
        self.assertEqual(board.words(name="s"), ())
        board.drop(name="s")
        self.assertEqual(len(board), 0)

    def test_kept_words_are_a_set(self):
        board = Board()
        board.put("r", SWAP)
        for word in (*WORDS[::-1], *WORDS):
            board.keep("r", word)
        self.assertEqual((board.words("r"), board.deeds), (tuple(WORDS), 13))

    def test_the_longest_are_answered_soon(self):
        started = time.perf_counter()
        board = Board()
        for name in "abcd":
            board.put(name, LONG)
            for word in (("keeps",), ("cell", "a"), ("cell", "b"), ("dead", 0), ("marked", 1)):
                board.keep(name, word)
            for number in (0, 1, 2):
                board.lose(name, number)
        self.assertEqual(board.deeds, 36)
        for name in "abcd":
            for word in QUESTIONS:
                getattr(board, word)(name)
            for edit in (("mark", 1), ("swap", 0), ("remove", 3)):
                board.spoilt_by(name, edit)
                board.mended_by(name, edit)
        self.assertLess(time.perf_counter() - started, 2)


if __name__ == "__main__":
    unittest.main()
