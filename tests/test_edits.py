"""Point 14, as far as it speaks of ROWS changed."""

import itertools
import time
import unittest

from atanywrite.edits import can_edit, edited, edits_commute, guarded, is_idle, mending_swaps, undone_by
from atanywrite.rows import is_row
from tests import brute, brute_edits
from tests.common import (
    FULL, ROW, SINGLE, STILL, STRANGE, UNFIT, known, list_at_each_depth, listed, nested, no_cell, no_number, refusal,
    with_strange_parts,
)
from tests.samples import SURE, SWAP, TALE
from tests.samples_board import INSERT, MIX

MOVES = (("f", ("a",), "a"), ("g", ("b", "a"), "b"), ("copy", ("a",), "b"), ("f", ("s",), "s"), ("old", ("a",), "b"),
         ("copy", ("a", "b"), "b"), ("f", ("a", "a"), "b"), ("f", (), "zz"))
CELLS = ("a", "b", "s", "z", "longercell", "")
ROWS = [ROW, STILL, SINGLE, FULL, SWAP, SURE, TALE, MIX, (("a",), ("a",), (), ())]
SMALL = list(brute.rows_of(("a", "b"), brute.FEW_MOVES[:5], 2, [("a",), ("a", "b")]))
MORE = ROWS + SMALL[::3] + list(brute.rows_of(("a", "b", "s"), brute.FEW_MOVES[:3], 3, [("a",)]))[::7]
FIELDS = {"NoNumber": "number", "NoCell": "name", "Known": "name"}


def refused(told):
    """What refusal tells of this answer of brute_edits."""
    return ("Unfit", {}) if told == ("Unfit",) else (told[0], {FIELDS[told[0]]: told[1]})


class EditTest(unittest.TestCase):
    def test_by_the_words(self):
        for row in MORE:
            for edit in brute_edits.edits_of(row, MOVES, CELLS):
                told = brute_edits.edited(row, edit)
                if brute_edits.is_refused(told):
                    self.assertEqual(refusal(edited, row, edit), refused(told), (row, edit))
                    self.assertEqual(refusal(undone_by, row, edit), refused(told))
                    self.assertEqual(refusal(is_idle, row, edit), refused(told))
                    self.assertIs(can_edit(row, edit), False)
                    continue
                self.assertEqual(edited(row, edit), told, (row, edit))
                self.assertEqual(edited(listed(row), listed(edit)), told)
                self.assertIs(can_edit(row, edit), True)
                self.assertIs(can_edit(listed(row), edit), True)
                self.assertTrue(is_row(told))

    def test_edges(self):
        cells, wanted, moves, marks = ROW
        first = ("h", (), "a")
        self.assertEqual(edited(ROW, ("insert", 0, first))[2:], ((first, *moves), (2,)))
        self.assertEqual(edited(ROW, ("insert", 1, first))[2:], ((moves[0], first, *moves[1:]), (1,)))
        self.assertEqual(edited(ROW, ("insert", 3, first))[2:], ((*moves, first), (1,)))
        self.assertEqual(edited(ROW, ("remove", 0))[2:], (moves[1:], ()))
        self.assertEqual(edited(ROW, ("remove", 2))[2:], (moves[:2], (1,)))
        self.assertEqual(edited(ROW, ("mark", 2))[3], (1, 2))
        self.assertEqual(edited(ROW, ("clear", 1))[3], ())
        self.assertEqual(edited(STILL, ("drop", "a")), (("b",), ("b",), (), ()))
        self.assertEqual(edited(STILL, ("name", "b", "z")), (("a", "z"), ("z",), (), ()))

    def test_refusals(self):
        for edit, told in (
            (("insert", 4, ("f", (), "q")), no_number(4)), (("insert", 0, ("f", (), "q")), UNFIT), (("replace", 3, MOVES[0]), no_number(3)),
            (("replace", 0, ROW[2][0]), UNFIT), (("swap", 2), no_number(2)), (("swap", -1), no_number(-1)), (("mark", 0), no_number(0)),
            (("mark", 1), no_number(1)), (("mark", 3), no_number(3)), (("clear", 2), no_number(2)), (("cell", "a"), known("a")),
            (("cell", "A"), UNFIT), (("drop", "x"), no_cell("x")), (("drop", "a"), UNFIT), (("want", "x"), no_cell("x")),
            (("want", "a"), UNFIT), (("leave", "x"), no_cell("x")), (("leave", "s"), UNFIT), (("name", "x", "a"), no_cell("x")),
            (("name", "a", "a"), known("a")), (("name", "a", "b"), known("b")), (("name", "a", "ninechars"), UNFIT),
        ):
            self.assertEqual(refusal(edited, ROW, edit), told, edit)
        self.assertEqual(refusal(edited, STILL, ("leave", "b")), UNFIT)
        self.assertEqual(refusal(edited, STILL, ("drop", "b")), UNFIT)
        self.assertEqual(refusal(edited, ((("a",), ("a",), (("f", (), "a"),) * 2, ())), ("swap", 0)), UNFIT)
        self.assertEqual(refusal(edited, SINGLE, ("swap", 0)), no_number(0))
        self.assertEqual(refusal(edited, STILL, ("remove", 0)), no_number(0))

    def test_things_that_are_no_edits(self):
        for thing in STRANGE + [nested(29), nested(28, "swap"), ROW, ("swap",), ("swap", 0, 0), ("swap", "0"), ("swap", True), ("clear", True)]:
            self.assertIs(can_edit(ROW, thing), False, thing)
        for edit in (INSERT, ("swap", 0), ("want", "s"), ("name", "a", "z"), ("replace", 0, INSERT[2]), ("remove", 0)):
            self.assertIs(can_edit(ROW, edit), True)
            for thing in list_at_each_depth(edit) + with_strange_parts(edit) + [edit[:-1], (*edit, 0), (*edit, "a"), ("x", *edit[1:])]:
                self.assertIs(can_edit(ROW, thing), False, thing)
        self.assertIs(can_edit(ROW, ("insert", 1, ("h", ("a", "q"), "b"))), False)
        self.assertIs(can_edit(ROW, ("insert", 1, ("h", ("a",)))), False)
        self.assertIs(can_edit(ROW, ("insert", False, INSERT[2])), False)


class BackTest(unittest.TestCase):
    def test_undone_by_is_the_least_of_all_that_lead_back(self):
        for row in MORE[::2]:
            moves = tuple(dict.fromkeys((*row[2], *MOVES[:4])))
            cells = tuple(dict.fromkeys((*row[0], "z", "a")))
            for edit in brute_edits.edits_of(row, MOVES[:4], cells):
                behind = brute_edits.edited(row, edit)
                if brute_edits.is_refused(behind):
                    continue
                backs = [back for back in brute_edits.edits_of(behind, moves, cells) if brute_edits.edited(behind, back) == row]
                told = undone_by(row, edit)
                self.assertEqual(told, min(backs, default=None), (row, edit))
                if told is not None:
                    self.assertEqual(edited(behind, told), row)

    def test_undone_by(self):
        self.assertEqual(undone_by(ROW, ("name", "a", "z")), ("name", "z", "a"))
        self.assertEqual(undone_by(ROW, ("remove", 2)), ("insert", 2, ROW[2][2]))
        # A mark falls away; a wanted cell falls away.
        self.assertIsNone(undone_by(ROW, ("remove", 0)))
        self.assertIsNone(undone_by((("a", "b"), ("a", "b"), (), ()), ("drop", "a")))
        self.assertEqual(undone_by((("a", "b"), ("b",), (), ()), ("drop", "a")), ("cell", "a"))
        alike = (("a",), ("a",), (("f", (), "a"),) * 3, ())
        self.assertEqual(undone_by(alike, ("insert", 2, ("f", (), "a"))), ("remove", 0))
        self.assertEqual(undone_by(alike, ("remove", 2)), ("insert", 0, ("f", (), "a")))


class CommuteTest(unittest.TestCase):
    def test_by_the_words(self):
        for row in MORE[::17]:
            edits = brute_edits.edits_of(row, MOVES[:2], ("a", "b", "z"))
            behind = {edit: brute_edits.edited(row, edit) for edit in edits}
            for one, other in itertools.product(edits, repeat=2):
                right = False
                if not brute_edits.is_refused(behind[one]) and not brute_edits.is_refused(behind[other]):
                    told = brute_edits.edited(behind[one], other)
                    right = not brute_edits.is_refused(told) and told == brute_edits.edited(behind[other], one)
                self.assertIs(edits_commute(row, one, other), right, (row, one, other))


class KeepTest(unittest.TestCase):
    def test_is_idle_by_the_words(self):
        for row in MORE[::2]:
            for edit in brute_edits.edits_of(row, MOVES[:4], ("a", "b", "s", "z")):
                behind = brute_edits.edited(row, edit)
                if not brute_edits.is_refused(behind):
                    right = brute.end(row, ()) == brute.end(behind, ()) and brute.keeps(row) == brute.keeps(behind)
                    self.assertIs(is_idle(row, edit), right, (row, edit))

    def test_guarantees(self):
        for row in itertools.chain(MORE, brute.long_rows(17)):
            if not brute.keeps(row):
                continue
            for cell in row[1] if len(row[1]) > 1 else ():
                self.assertTrue(brute.keeps(edited(row, ("leave", cell))))
            for number in range(len(row[2])):
                if not brute.whys(row, number):
                    self.assertTrue(brute.keeps(edited(row, ("remove", number))))

    def test_mending_swaps(self):
        for row in itertools.chain(MORE, brute.long_rows(17)):
            told = []
            for number in range(len(row[2]) - 1):
                turned = brute_edits.swap(row, number)
                if brute.keeps(turned) and brute.end(turned, ()) == brute.end(row, ()):
                    told.append(number)
                one, two = row[2][number:number + 2]
                if number + 1 not in row[3] and one[2] not in (*two[1], two[2]) and two[2] not in one[1]:
                    self.assertEqual(brute.end(turned, ()), brute.end(row, ()))
                    self.assertEqual(brute.keeps(turned), brute.keeps(row))
            self.assertEqual(mending_swaps(row), tuple(told))
        alike = (("a",), ("a",), (("f", (), "a"),) * 2, ())
        self.assertEqual((mending_swaps(alike), mending_swaps(STILL), mending_swaps(SINGLE)), ((0,), (), ()))


class GuardTest(unittest.TestCase):
    def test_guarantee(self):
        rows = [row for row in itertools.chain(MORE, brute.small_rows(), brute.long_rows(5)) if "c" in row[0] or len(row[0]) < 3]
        for row in rows[::3]:
            for number, cell in itertools.product(range(len(row[2])), row[0]):
                first = brute.mark_below(row, number)
                last = min(spot for spot in brute.marked(row) if spot > number)
                if cell not in row[2][number][1] or brute.writes_between(row, cell, first, number):
                    self.assertEqual(refusal(guarded, row, number, cell, "zz"), UNFIT)
                    continue
                told = guarded(row, number, cell, "zz")
                self.assertTrue(is_row(told))
                self.assertEqual(brute.end(told, ()), brute.end(row, ()))
                left = [hazard for hazard in brute.hazards(row) if not (first <= hazard[0] < last and hazard[1] == cell)]
                moved = [(one + (one >= first), own, later + (later >= first)) for one, own, later in left]
                self.assertEqual(brute.hazards(told), tuple(sorted(moved)))
                self.assertEqual(told[0], tuple(sorted((*row[0], "zz"))))
                self.assertEqual((told[1], told[2][first]), (row[1], ("copy", (cell,), "zz")))

    def test_errors(self):
        self.assertEqual(refusal(guarded, MIX, 2, "x", "a"), no_number(2))
        self.assertEqual(refusal(guarded, MIX, -1, "x", "a"), no_number(-1))
        self.assertEqual(refusal(guarded, MIX, 1, "x", "a"), no_cell("x"))
        self.assertEqual(refusal(guarded, MIX, 1, "b", "a"), known("a"))
        self.assertEqual(refusal(guarded, MIX, 0, "a", "a"), known("a"))
        self.assertEqual(refusal(guarded, MIX, 1, "b", "c"), UNFIT)
        # What the move reads is written ahead of it in its STRETCH, so it is not read so.
        self.assertEqual(refusal(guarded, MIX, 1, "a", "c"), UNFIT)
        self.assertEqual(refusal(guarded, MIX, 0, "a", "ninechars"), UNFIT)
        self.assertEqual(refusal(guarded, MIX, 0, "a", ""), UNFIT)
        self.assertEqual(refusal(guarded, STILL, 0, "a", "c"), no_number(0))

    def test_marks_and_all_that_read(self):
        moves = (("f", ("a",), "b"), ("copy", ("a",), "b"), ("g", ("b", "a"), "a"), ("h", ("a",), "b"))
        row = (("a", "b"), ("b",), moves, (1,))
        told = guarded(row, 2, "a", "s")
        self.assertEqual(told[2], (moves[0], ("copy", ("a",), "s"), ("copy", ("s",), "b"), ("g", ("b", "s"), "a"), moves[3]))
        self.assertEqual(told[3], (1, 2))
        self.assertEqual(guarded(row, 0, "a", "s")[3], (1, 2))

    def test_long_ones_are_answered_soon(self):
        row = (("a", "b", "c", "d", "e", "f"), ("a", "b"), tuple(("f", ("a", "b", "c"), cell) for cell in "abcdefabcd"), (3, 6))
        started = time.perf_counter()
        for edit in brute_edits.edits_of(row, row[2][:2], row[0]):
            if can_edit(row, edit):
                undone_by(row, edit)
                is_idle(row, edit)
        mending_swaps(row)
        self.assertLess(time.perf_counter() - started, 10)


if __name__ == "__main__":
    unittest.main()
