"""Point 5: what the functions of rows.py tell of a ROW."""

import unittest

from atanywrite.rows import (
    functions, is_marked, read_cells, readers, spots, stretch_of, stretches, writers, written_cells,
)
from tests.common import FULL, ROW, SINGLE, STILL, no_cell, no_number, refusal

FAR = 10 ** 9


class SpotsTest(unittest.TestCase):
    def test_spots(self):
        self.assertEqual(spots(ROW), (0, 1, 3))
        self.assertEqual(spots(FULL), (0, 1, 2, 3, 4, 5))
        self.assertEqual(spots(FULL[:3] + ((2, 3),)), (0, 2, 3, 5))
        self.assertEqual(spots(SINGLE), (0, 1))
        self.assertEqual(spots(STILL), (0,))

    def test_stretches(self):
        self.assertEqual(stretches(ROW), ((0, 1), (1, 3)))
        self.assertEqual(stretches(ROW[:3] + ((),)), ((0, 3),))
        self.assertEqual(stretches(FULL), ((0, 1), (1, 2), (2, 3), (3, 4), (4, 5)))
        self.assertEqual(stretches(SINGLE), ((0, 1),))
        self.assertEqual(stretches(STILL), ())

    def test_stretch_of(self):
        self.assertEqual([stretch_of(ROW, number) for number in range(3)], [(0, 1), (1, 3), (1, 3)])
        self.assertEqual([stretch_of(FULL, number) for number in range(5)], [(k, k + 1) for k in range(5)])
        self.assertEqual(stretch_of(SINGLE, 0), (0, 1))

    def test_stretch_of_no_move(self):
        for number in (-1, 3, 4, FAR, -FAR):
            self.assertEqual(refusal(stretch_of, ROW, number), no_number(number))
        for number in (-1, 0, 1):
            self.assertEqual(refusal(stretch_of, STILL, number), no_number(number))
        self.assertEqual(refusal(stretch_of, SINGLE, 1), no_number(1))

    def test_is_marked(self):
        found = [is_marked(ROW, number) for number in (-FAR, -1, 0, 1, 2, 3, 4, FAR)]
        self.assertEqual(found, [False, False, True, True, False, True, False, False])
        self.assertEqual([is_marked(STILL, number) for number in (-1, 0, 1)], [False, True, False])
        self.assertEqual([is_marked(SINGLE, number) for number in (-1, 0, 1, 2)], [False, True, True, False])
        self.assertIs(is_marked(ROW, 1), True)
        self.assertIs(is_marked(ROW, 2), False)


class CellsTest(unittest.TestCase):
    def test_readers(self):
        self.assertEqual([readers(ROW, cell) for cell in ROW[0]], [(0, 1), (1,), (2,)])
        self.assertEqual([readers(FULL, cell) for cell in FULL[0]], [(0, 3), (1, 3, 4), (3, 4), ()])
        self.assertEqual(readers(SINGLE, "a"), ())
        self.assertEqual(readers(STILL, "a"), ())

    def test_writers(self):
        self.assertEqual([writers(ROW, cell) for cell in ROW[0]], [(1,), (2,), (0,)])
        self.assertEqual([writers(FULL, cell) for cell in FULL[0]], [(2,), (0, 4), (1, 3), ()])
        self.assertEqual(writers(SINGLE, "a"), (0,))
        self.assertEqual(writers(STILL, "b"), ())

    def test_functions_are_no_cells(self):
        row = (("f", "g"), ("f",), (("f", ("g",), "g"), ("g", (), "g")), ())
        self.assertEqual((readers(row, "f"), writers(row, "f")), ((), ()))
        self.assertEqual((read_cells(row), written_cells(row)), (("g",), ("g",)))

    def test_no_cell(self):
        for told in (readers, writers):
            for cell in ("c", "f", "copy", "", "A", "a b", "ab", "any string"):
                self.assertEqual(refusal(told, ROW, cell), no_cell(cell))
            self.assertEqual(refusal(told, STILL, "s"), no_cell("s"))

    def test_read_cells(self):
        self.assertEqual(read_cells(ROW), ("a", "b", "s"))
        self.assertEqual(read_cells(FULL), ("a", "b", "c"))
        self.assertEqual(read_cells(SINGLE), ())
        self.assertEqual(read_cells(STILL), ())

    def test_written_cells(self):
        self.assertEqual(written_cells(ROW), ("a", "b", "s"))
        self.assertEqual(written_cells(FULL), ("a", "b", "c"))
        self.assertEqual(written_cells(SINGLE), ("a",))
        self.assertEqual(written_cells(STILL), ())
        self.assertEqual(written_cells((("a", "b"), ("a",), (("f", ("a",), "b"),), ())), ("b",))
        self.assertEqual(read_cells((("a", "b"), ("a",), (("f", ("b", "a"), "b"),), ())), ("a", "b"))

    def test_functions(self):
        self.assertEqual(functions(ROW), ("copy", "f", "g"))
        self.assertEqual(functions(FULL), ("copy", "f", "g", "mix"))
        self.assertEqual(functions(SINGLE), ("f",))
        self.assertEqual(functions(STILL), ())


if __name__ == "__main__":
    unittest.main()
