"""Points 2, 3 and 5: is_row, is_move, is_change, is_order."""

import itertools
import unittest

from atanywrite.rows import is_change, is_move, is_order, is_row
from tests.common import (
    CHANGE, FULL, ROW, SINGLE, STILL, STRANGE, list_at_each_depth, listed, nested, with_strange_parts,
)

NO_NAMES = [
    "", "A", "aB", "a1", "a b", " a", "a ", "a-b", "_", "ninechars", "a\n", "\u00e4", "\u0430", "\u00aa", "a;", "\u00df",
    None, 1, True, ("a",), ["a"], (),
]
NAMES = ["a", "z", "old", "spoilt", "copy", "to", "mark", "cells", "wanted", "eightabc", "zzzzzzzz"]


def row_with(cells=ROW[0], wanted=ROW[1], moves=ROW[2], marks=ROW[3]):
    return (cells, wanted, moves, marks)


class RowTest(unittest.TestCase):
    def yes(self, thing):
        self.assertIs(is_row(thing), True, thing)

    def no(self, thing):
        self.assertIs(is_row(thing), False, thing)

    def test_rows(self):
        for row in (ROW, STILL, SINGLE, FULL):
            self.yes(row)

    def test_things_of_other_kinds(self):
        for thing in STRANGE + [nested(29), nested(29, "a"), [nested(28)]]:
            self.no(thing)

    def test_deep_things_in_each_place(self):
        for at in range(4):
            self.no(ROW[:at] + (nested(28),) + ROW[at + 1:])
            self.no(ROW[:at] + (nested(28, "a"),) + ROW[at + 1:])

    def test_a_list_in_the_place_of_a_tuple(self):
        for row in (ROW, STILL, SINGLE, FULL):
            for thing in list_at_each_depth(row):
                self.no(thing)
            self.no(listed(row))

    def test_a_part_of_another_kind(self):
        for row in (ROW, SINGLE, FULL):
            for thing in with_strange_parts(row):
                self.no(thing)

    def test_the_length(self):
        self.no(ROW[:3])
        self.no(ROW + ((),))

    def test_cells(self):
        self.no(row_with(cells=()))
        self.no(((), (), (), ()))
        self.no(row_with(cells=("b", "a", "s")))
        self.no(row_with(cells=("a", "a", "b", "s")))
        self.no(row_with(cells=("a", "b", "s", "s")))
        self.no(row_with(cells=("a", "b")))
        self.no(row_with(cells="abs"))
        self.yes(row_with(cells=("a", "b", "s", "t")))

    def test_names_of_cells(self):
        for name in NAMES:
            self.yes(((name,), (name,), (("f", (name,), name),), ()))
        for name in NO_NAMES:
            self.no(((name,), (name,), (("f", (name,), name),), ()))
            self.no(((name,), (name,), (), ()))

    def test_wanted(self):
        self.no(row_with(wanted=()))
        self.no(row_with(wanted=("b", "a")))
        self.no(row_with(wanted=("a", "a")))
        self.no(row_with(wanted=("a", "c")))
        self.no(row_with(wanted="a"))
        self.no(row_with(wanted=("a", 1)))
        self.yes(row_with(wanted=("s",)))
        self.yes(row_with(wanted=("a", "b", "s")))

    def test_marks(self):
        for marks in ((), (1,), (2,), (1, 2)):
            self.yes(row_with(marks=marks))
        for marks in ((0,), (3,), (4,), (-1,), (0, 1), (1, 3), (2, 1), (1, 1), (True,), (1, True), (True, 2), ("1",),
                      (1, "2"), (None,), ((1,),), 1, None, "1"):
            self.no(row_with(marks=marks))

    def test_marks_without_and_with_one_move(self):
        for marks in ((0,), (1,), (-1,), (True,), (False,)):
            self.no(STILL[:3] + (marks,))
            self.no(SINGLE[:3] + (marks,))

    def test_moves(self):
        self.no(row_with(moves=(("f", (), "q"),), marks=()))
        self.no(row_with(moves=(("f", ("q",), "a"),), marks=()))
        self.no(row_with(moves=("f", ("a",), "a"), marks=()))
        self.no(row_with(moves=ROW[2] + ((),)))
        self.yes(row_with(moves=(), marks=()))

    def test_beyond_the_bounds(self):
        cells = tuple(sorted("".join(signs) for signs in itertools.product("abcdefg", repeat=3)))
        moves = tuple(("f", cells[:50], cell) for cell in cells)
        self.yes((cells, cells, moves, tuple(range(1, len(moves)))))
        self.no((cells, cells, moves, tuple(range(1, len(moves) + 1))))
        self.no((cells, cells[:-1] + ("zzz",), moves, ()))


class MoveTest(unittest.TestCase):
    def yes(self, thing):
        for row in (ROW, listed(ROW)):
            self.assertIs(is_move(row, thing), True, thing)

    def no(self, thing):
        for row in (ROW, listed(ROW)):
            self.assertIs(is_move(row, thing), False, thing)

    def test_moves(self):
        for move in ROW[2] + (("h", (), "s"), ("h", ("s", "b", "a"), "a"), ("to", ("a",), "a"), ("mark", (), "a"),
                              ("copy", ("s",), "s"), ("eightabc", ("b",), "b"), ("a", ("a",), "b")):
            self.yes(move)

    def test_things_of_other_kinds(self):
        for thing in STRANGE + [nested(29), ROW, CHANGE]:
            self.no(thing)
        for at in range(3):
            move = ("f", ("a",), "b")
            self.no(move[:at] + (nested(28),) + move[at + 1:])
        self.no(("f", ("a", nested(27)), "a"))
        self.no(("f", (["a"],), "a"))

    def test_lists(self):
        for move in ROW[2]:
            for thing in list_at_each_depth(move):
                self.no(thing)

    def test_the_length(self):
        self.no(("f", ("a",)))
        self.no(("f", ("a",), "a", "b"))

    def test_functions(self):
        for name in NAMES:
            self.assertIs(is_move(ROW, (name, ("a",), "b")), name not in ("old", "spoilt"), name)
        for name in NO_NAMES:
            self.no((name, ("a",), "b"))

    def test_copy_reads_just_one(self):
        self.no(("copy", (), "a"))
        self.no(("copy", ("a", "b"), "s"))
        self.no(("copy", ("a", "a"), "s"))
        self.yes(("copy", ("a",), "a"))

    def test_reads(self):
        self.no(("f", ("a", "a"), "b"))
        self.no(("f", ("a", "b", "a"), "b"))
        self.no(("f", ("c",), "b"))
        self.no(("f", ("a", "c"), "b"))
        self.no(("f", "a", "b"))
        self.no(("f", ("ab",), "b"))
        self.no(("f", (1,), "b"))
        self.no(("f", None, "b"))

    def test_the_cell(self):
        for cell in ("c", "", "A", "ab", None, 0, True, ("a",), ["a"], ()):
            self.no(("f", ("a",), cell))

    def test_cells_that_are_not_wanted_or_named_by_no_move(self):
        self.assertIs(is_move(STILL, ("f", ("a",), "a")), True)
        self.assertIs(is_move(STILL, ("f", ("s",), "a")), False)


class ChangeTest(unittest.TestCase):
    def yes(self, thing):
        self.assertIs(is_change(thing), True, thing)

    def no(self, thing):
        self.assertIs(is_change(thing), False, thing)

    def test_changes(self):
        self.yes(CHANGE)
        self.yes((("p", "q", "r"), (("f", ("p", "q")), ("f", ("q", "r")), ("f", ("r", "p")))))
        self.yes((("a",), (("f", ()),)))
        self.yes((("old",), (("copy", ("old",)),)))

    def test_things_of_other_kinds(self):
        for thing in STRANGE + [nested(29), ROW, ROW[2][0], ROW[:2]]:
            self.no(thing)
        for at in range(2):
            self.no(CHANGE[:at] + (nested(28),) + CHANGE[at + 1:])

    def test_lists(self):
        for thing in list_at_each_depth(CHANGE):
            self.no(thing)
        self.no(listed(CHANGE))

    def test_the_length(self):
        self.no(CHANGE[:1])
        self.no(CHANGE + ((),))

    def test_blocks(self):
        recipe = ("f", ())
        self.no(((), ()))
        self.no((("b", "a"), (recipe, recipe)))
        self.no((("a", "a"), (recipe, recipe)))
        self.no(("ab", (recipe, recipe)))
        for name in NAMES:
            self.yes(((name,), (("f", (name,)),)))
        for name in NO_NAMES:
            self.no(((name,), (("f", (name,)),)))
            self.no(((name,), (("f", ()),)))

    def test_a_recipe_for_each_block(self):
        self.no((CHANGE[0], CHANGE[1][:3]))
        self.no((CHANGE[0], CHANGE[1] + (("f", ()),)))
        self.no((("a",), ()))

    def test_recipes(self):
        for name in NAMES:
            self.assertIs(is_change((("a",), ((name, ("a",)),))), name not in ("old", "spoilt"), name)
        for name in NO_NAMES:
            self.no((("a",), ((name, ("a",)),)))
        for recipe in ((), ("f",), ("f", (), ()), ("f", "a"), ("f", ("b",)), ("f", ("a", "a")), ("copy", ()),
                       ("f", (1,)), ("f", (("a",),)), ("f", None), "f", None, 1):
            self.no((("a",), (recipe,)))
        self.no((("a", "b"), (("copy", ("a", "b")), ("f", ()))))


class OrderTest(unittest.TestCase):
    def test_orders(self):
        for order in itertools.permutations(CHANGE[0]):
            self.assertIs(is_order(CHANGE, order), True, order)
            self.assertIs(is_order(listed(CHANGE), order), True, order)
            self.assertIs(is_order(CHANGE, list(order)), False, order)

    def test_nearly_orders(self):
        for thing in (("a", "b", "c"), ("a", "b", "c", "c"), ("a", "b", "c", "d", "d"), ("a", "b", "c", "e"),
                      ("a", "b", "c", "d", "e"), "abcd", ("abcd",), ("a", "b", "c", "D"), (("a", "b", "c", "d"),)):
            self.assertIs(is_order(CHANGE, thing), False, thing)

    def test_parts_of_another_kind(self):
        for at in range(4):
            for other in (None, 1, True, ("a",), ["a"], (), nested(28)):
                thing = CHANGE[0][:at] + (other,) + CHANGE[0][at + 1:]
                self.assertIs(is_order(CHANGE, thing), False, thing)

    def test_things_of_other_kinds(self):
        for thing in STRANGE + [nested(29), ROW, CHANGE]:
            if thing != CHANGE[0]:
                self.assertIs(is_order(CHANGE, thing), False, thing)

    def test_one_block(self):
        self.assertIs(is_order((("a",), (("f", ()),)), ("a",)), True)
        self.assertIs(is_order((("a",), (("f", ()),)), ()), False)
        self.assertIs(is_order((("a",), (("f", ()),)), "a"), False)


if __name__ == "__main__":
    unittest.main()
