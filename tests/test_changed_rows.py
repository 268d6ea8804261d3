"""Point 5: the functions of rows.py that return other ROWS."""

import itertools
import unittest

from atanywrite.rows import (
    all_marked, cut, is_row, joined, renamed, swapped, unmarked, with_cell, with_mark, with_move, with_wanted,
    without_cell, without_mark, without_move,
)
from tests.common import FULL, ROW, SINGLE, STILL, UNFIT, known, no_cell, no_number, refusal

FAR = 10 ** 9
MARK = "mark"
MOVE = ("h", ("b", "a"), "b")


def marked_rows():
    """ROWS of 0 to 4 unlike moves, with all sets of marks."""
    for many in range(5):
        moves = tuple(("f" * (at + 1), ("a",), "b") for at in range(many))
        spots = range(1, many)
        for size in range(many):
            for marks in itertools.combinations(spots, size):
                yield (("a", "b"), ("b",), moves, marks)
        if many == 0:
            yield (("a", "b"), ("b",), (), ())


def line_of(row):
    """The moves, and MARK wherever a mark stands, as one list."""
    line = []
    for number, move in enumerate(row[2]):
        line += [MARK, move] if number in row[3] else [move]
    return line


def row_of(cells, wanted, line):
    """The ROW of such a list; marks at an end, or behind another mark, fall away."""
    moves, marks = [], []
    for part in line:
        if part != MARK:
            moves.append(part)
        elif moves and len(moves) not in marks:
            marks.append(len(moves))
    return (cells, wanted, tuple(moves), tuple(mark for mark in marks if mark < len(moves)))


def places_of_moves(line):
    return [at for at, part in enumerate(line) if part != MARK]


class MovesTest(unittest.TestCase):
    def test_with_move_as_a_line(self):
        for row in marked_rows():
            line = line_of(row)
            for number, at in enumerate(places_of_moves(line) + [len(line)]):
                told = with_move(row, number, MOVE)
                # A mark at this very spot is ahead of the move at this place, so ahead of the new one.
                self.assertEqual(told, row_of(row[0], row[1], line[:at] + [MOVE] + line[at:]), (row, number))
                self.assertEqual(told[2][number], MOVE)
                self.assertTrue(is_row(told))

    def test_with_move(self):
        self.assertEqual(with_move(ROW, 0, MOVE), (ROW[0], ROW[1], (MOVE,) + ROW[2], (2,)))
        self.assertEqual(with_move(ROW, 1, MOVE), (ROW[0], ROW[1], ROW[2][:1] + (MOVE,) + ROW[2][1:], (1,)))
        self.assertEqual(with_move(ROW, 3, MOVE), (ROW[0], ROW[1], ROW[2] + (MOVE,), (1,)))
        self.assertEqual(with_move(FULL, 2, ("g", (), "d"))[3], (1, 2, 4, 5))
        self.assertEqual(with_move(STILL, 0, MOVE), (STILL[0], STILL[1], (MOVE,), ()))
        self.assertEqual(with_move(SINGLE, 1, SINGLE[2][0]), (("a",), ("a",), SINGLE[2] * 2, ()))

    def test_with_move_at_no_spot(self):
        for number in (-1, 4, FAR, -FAR):
            self.assertEqual(refusal(with_move, ROW, number, MOVE), no_number(number))
        for number in (-1, 1):
            self.assertEqual(refusal(with_move, STILL, number, MOVE), no_number(number))

    def test_with_what_is_no_move_of_it(self):
        for move in (("f", ("x",), "a"), ("f", (), "x"), ("old", (), "a"), ("copy", (), "a")):
            self.assertEqual(refusal(with_move, ROW, 0, move), UNFIT)
            self.assertEqual(refusal(with_move, ROW, 4, move), no_number(4))

    def test_without_move_as_a_line(self):
        for row in marked_rows():
            line = line_of(row)
            for number, at in enumerate(places_of_moves(line)):
                told = without_move(row, number)
                self.assertEqual(told, row_of(row[0], row[1], line[:at] + line[at + 1:]), (row, number))
                self.assertTrue(is_row(told))

    def test_without_move(self):
        self.assertEqual(without_move(ROW, 0), (ROW[0], ROW[1], ROW[2][1:], ()))
        self.assertEqual(without_move(ROW, 1), (ROW[0], ROW[1], ROW[2][:1] + ROW[2][2:], (1,)))
        self.assertEqual(without_move(ROW, 2), (ROW[0], ROW[1], ROW[2][:2], (1,)))
        self.assertEqual(without_move(FULL, 2)[3], (1, 2, 3))
        self.assertEqual(without_move(FULL, 0)[3], (1, 2, 3))
        self.assertEqual(without_move(FULL, 4)[3], (1, 2, 3))
        self.assertEqual(without_move(FULL[:3] + ((4,),), 4)[3], ())
        self.assertEqual(without_move(SINGLE, 0), SINGLE[:2] + ((), ()))

    def test_without_no_move(self):
        for number in (-1, 3, FAR, -FAR):
            self.assertEqual(refusal(without_move, ROW, number), no_number(number))
        self.assertEqual(refusal(without_move, STILL, 0), no_number(0))
        self.assertEqual(refusal(without_move, SINGLE, 1), no_number(1))

    def test_swapped(self):
        first, second, third = ROW[2]
        self.assertEqual(swapped(ROW, 0), ROW[:2] + ((second, first, third), (1,)))
        self.assertEqual(swapped(ROW, 1), ROW[:2] + ((first, third, second), (1,)))
        self.assertEqual(swapped(FULL, 3), FULL[:2] + (FULL[2][:3] + (FULL[2][4], FULL[2][3]), FULL[3]))
        for row in marked_rows():
            for number in range(len(row[2]) - 1):
                told = swapped(row, number)
                self.assertEqual(told[2][number:number + 2], row[2][number + 1:number - 1 if number else None:-1])
                self.assertEqual(swapped(told, number), row)
                self.assertEqual(told[3], row[3])

    def test_swapped_of_no_two(self):
        for number in (-1, -2, 2, 3, FAR, -FAR):
            self.assertEqual(refusal(swapped, ROW, number), no_number(number))
        self.assertEqual(refusal(swapped, SINGLE, 0), no_number(0))
        self.assertEqual(refusal(swapped, SINGLE, -1), no_number(-1))
        self.assertEqual(refusal(swapped, STILL, 0), no_number(0))
        self.assertEqual(refusal(swapped, STILL, -1), no_number(-1))


class MarksTest(unittest.TestCase):
    def test_with_and_without_each_mark(self):
        for row in marked_rows():
            for number in range(-2, len(row[2]) + 3):
                between = 0 < number < len(row[2])
                if between and number not in row[3]:
                    told = with_mark(row, number)
                    self.assertEqual(told, row[:3] + (tuple(sorted(row[3] + (number,))),))
                    self.assertEqual(without_mark(told, number), row)
                else:
                    self.assertEqual(refusal(with_mark, row, number), no_number(number))
                if number not in row[3]:
                    self.assertEqual(refusal(without_mark, row, number), no_number(number))

    def test_far_numbers(self):
        for number in (FAR, -FAR):
            self.assertEqual(refusal(with_mark, ROW, number), no_number(number))
            self.assertEqual(refusal(without_mark, ROW, number), no_number(number))

    def test_all_marked(self):
        self.assertEqual(all_marked(ROW), ROW[:3] + ((1, 2),))
        self.assertEqual(all_marked(FULL), FULL)
        self.assertEqual(all_marked(SINGLE), SINGLE)
        self.assertEqual(all_marked(STILL), STILL)

    def test_unmarked(self):
        self.assertEqual(unmarked(ROW), ROW[:3] + ((),))
        self.assertEqual(unmarked(FULL), FULL[:3] + ((),))
        self.assertEqual(unmarked(STILL), STILL)


class CellsTest(unittest.TestCase):
    def test_with_cell(self):
        self.assertEqual(with_cell(ROW, "c"), (("a", "b", "c", "s"),) + ROW[1:])
        self.assertEqual(with_cell(ROW, "z"), (("a", "b", "s", "z"),) + ROW[1:])
        self.assertEqual(with_cell(SINGLE, "aa"), (("a", "aa"),) + SINGLE[1:])
        self.assertEqual(with_cell(ROW, "f"), (("a", "b", "f", "s"),) + ROW[1:])
        self.assertEqual(with_cell(STILL, "old"), (("a", "b", "old"),) + STILL[1:])

    def test_with_a_known_cell(self):
        for cell in ROW[0]:
            self.assertEqual(refusal(with_cell, ROW, cell), known(cell))

    def test_with_a_cell_that_is_no_name(self):
        for cell in ("", "A", "a b", "ninechars"):
            self.assertEqual(refusal(with_cell, ROW, cell), UNFIT)

    def test_without_cell(self):
        self.assertEqual(without_cell(FULL[:1] + (("a", "d"),) + FULL[2:], "d"),
                         (("a", "b", "c"), ("a",)) + FULL[2:])
        self.assertEqual(without_cell(STILL, "a"), (("b",), ("b",), (), ()))
        row = (("a", "b", "f"), ("a", "f"), (("f", ("a",), "b"),), ())
        self.assertEqual(without_cell(row, "f"), (("a", "b"), ("a",), row[2], ()))

    def test_without_no_cell(self):
        for cell in ("c", "f", "", "A", "any string"):
            self.assertEqual(refusal(without_cell, ROW, cell), no_cell(cell))

    def test_without_a_needed_cell(self):
        for cell in ROW[0]:
            self.assertEqual(refusal(without_cell, ROW, cell), UNFIT)
        self.assertEqual(refusal(without_cell, FULL, "d"), UNFIT)
        self.assertEqual(refusal(without_cell, STILL, "b"), UNFIT)
        self.assertEqual(refusal(without_cell, (("a",), ("a",), (), ()), "a"), UNFIT)
        only_read = (("a", "b"), ("b",), (("f", ("a",), "b"),), ())
        self.assertEqual(refusal(without_cell, only_read, "a"), UNFIT)
        only_written = (("a", "b"), ("b",), (("f", ("b",), "a"),), ())
        self.assertEqual(refusal(without_cell, only_written, "a"), UNFIT)

    def test_with_wanted(self):
        for wanted in (("a",), ("a", "b"), ("s",), ("b", "s"), ("a", "b", "s")):
            self.assertEqual(with_wanted(ROW, wanted), (ROW[0], wanted) + ROW[2:])

    def test_with_wrong_wanted(self):
        self.assertEqual(refusal(with_wanted, ROW, ()), UNFIT)
        self.assertEqual(refusal(with_wanted, ROW, []), UNFIT)
        self.assertEqual(refusal(with_wanted, ROW, ("a", "c")), no_cell("c"))
        self.assertEqual(refusal(with_wanted, ROW, ("c", "d")), no_cell("c"))
        self.assertEqual(refusal(with_wanted, ROW, ("", "a")), no_cell(""))
        self.assertEqual(refusal(with_wanted, ROW, ("A b", "x")), no_cell("A b"))

    def test_renamed(self):
        self.assertEqual(renamed(ROW, "a", "x"), (
            ("b", "s", "x"), ("b", "x"), (("copy", ("x",), "s"), ("f", ("x", "b"), "x"), ("g", ("s",), "b")), (1,)))
        self.assertEqual(renamed(ROW, "s", "f"), (
            ("a", "b", "f"), ("a", "b"), (("copy", ("a",), "f"), ("f", ("a", "b"), "a"), ("g", ("f",), "b")), (1,)))
        self.assertEqual(renamed(STILL, "b", "aa"), (("a", "aa"), ("aa",), (), ()))
        self.assertEqual(renamed(SINGLE, "a", "spoilt"), (("spoilt",), ("spoilt",), (("f", (), "spoilt"),), ()))

    def test_a_function_keeps_its_name(self):
        row = (("f", "g"), ("f",), (("f", ("f", "g"), "g"), ("copy", ("g",), "f")), (1,))
        self.assertEqual(renamed(row, "f", "z"),
                         (("g", "z"), ("z",), (("f", ("z", "g"), "g"), ("copy", ("g",), "z")), (1,)))

    def test_renamed_wrongly(self):
        for new in ("a", "s", "q", "", "no name"):
            self.assertEqual(refusal(renamed, ROW, "c", new), no_cell("c"))
        for new in ROW[0]:
            self.assertEqual(refusal(renamed, ROW, "a", new), known(new))
        for new in ("", "A", "a b", "ninechars", "a1", "any string"):
            self.assertEqual(refusal(renamed, ROW, "a", new), UNFIT)
            self.assertEqual(refusal(renamed, STILL, "a", new), UNFIT)
        self.assertEqual(refusal(renamed, ROW, "", ""), no_cell(""))


class JoinedTest(unittest.TestCase):
    def test_joined(self):
        other = (("a", "s"), ("s",), (("h", ("s",), "a"), ("k", ("a",), "s"), ("f", (), "s")), (2,))
        self.assertEqual(joined(ROW, other), (ROW[0], ("s",), ROW[2] + other[2], (1, 3, 5)))
        self.assertEqual(joined(ROW, ROW), (ROW[0], ROW[1], ROW[2] * 2, (1, 3, 4)))
        self.assertEqual(joined(SINGLE, SINGLE), (("a",), ("a",), SINGLE[2] * 2, (1,)))

    def test_joined_without_moves(self):
        self.assertEqual(joined(ROW, STILL), (ROW[0], ("b",)) + ROW[2:])
        self.assertEqual(joined(STILL, SINGLE), (("a", "b"), ("a",), SINGLE[2], ()))
        self.assertEqual(joined(STILL, STILL), STILL)
        self.assertEqual(joined(STILL, (("a",), ("a",)) + FULL[2:3] + ((),))[3], ())

    def test_joined_with_more_cells(self):
        self.assertEqual(refusal(joined, STILL, ROW), UNFIT)
        self.assertEqual(refusal(joined, SINGLE, STILL), UNFIT)
        # A cell that other neither wants nor names is one more, too.
        self.assertEqual(refusal(joined, SINGLE, (("a", "z"), ("a",), (), ())), UNFIT)

    def test_joined_as_a_line(self):
        for row in marked_rows():
            for other in marked_rows():
                line = line_of(row) + [MARK] + line_of(other)
                self.assertEqual(joined(row, other), row_of(row[0], other[1], line))


class CutTest(unittest.TestCase):
    def test_cut(self):
        cells, wanted, moves, _ = ROW
        self.assertEqual(cut(ROW, 0), ((cells, cells, (), ()), ROW))
        self.assertEqual(cut(ROW, 1), ((cells, cells, moves[:1], ()), (cells, wanted, moves[1:], ())))
        self.assertEqual(cut(ROW, 2), ((cells, cells, moves[:2], (1,)), (cells, wanted, moves[2:], ())))
        self.assertEqual(cut(ROW, 3), ((cells, cells, moves, (1,)), (cells, wanted, (), ())))
        self.assertEqual([part[3] for part in cut(FULL, 2)], [(1,), (1, 2)])
        self.assertEqual(cut(STILL, 0), ((("a", "b"), ("a", "b"), (), ()), STILL))

    def test_cut_at_no_spot(self):
        for number in (-1, 4, FAR, -FAR):
            self.assertEqual(refusal(cut, ROW, number), no_number(number))
        self.assertEqual(refusal(cut, STILL, 1), no_number(1))

    def test_cut_and_joined(self):
        for row in marked_rows():
            for number in range(len(row[2]) + 1):
                ahead, behind = cut(row, number)
                self.assertTrue(is_row(ahead) and is_row(behind))
                between = {number} if 0 < number < len(row[2]) else set()
                self.assertEqual(joined(ahead, behind), row[:3] + (tuple(sorted(between | set(row[3]))),))


if __name__ == "__main__":
    unittest.main()
