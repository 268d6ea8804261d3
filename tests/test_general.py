"""Point 2: lists for tuples, arguments by name, arguments unchanged, equal results, for each function."""

import copy
import inspect
import unittest

from atanywrite import rows, texts
from atanywrite.errors import RowError
from tests.common import CHANGE, FULL, ROW, SINGLE, STILL, has_list, listed

MOVE = ("h", ("a", "b"), "b")
SMALL = (("a",), ("a",), (("f", (), "a"), ("g", ("a",), "a")), (1,))

# For each function its parameters and samples of arguments; those called thing keep their tuples.
SAMPLES = {
    rows.is_row: (("thing",), [(ROW,), (1,)]),
    rows.is_move: (("row", "thing"), [(ROW, MOVE), (ROW, 1)]),
    rows.is_change: (("thing",), [(CHANGE,), ("x",)]),
    rows.is_order: (("change", "thing"), [(CHANGE, ("b", "a", "d", "c")), (CHANGE, None)]),
    rows.spots: (("row",), [(ROW,), (STILL,)]),
    rows.stretches: (("row",), [(ROW,), (STILL,)]),
    rows.stretch_of: (("row", "number"), [(ROW, 2), (ROW, 3)]),
    rows.is_marked: (("row", "number"), [(ROW, 1), (ROW, 2)]),
    rows.readers: (("row", "cell"), [(ROW, "a"), (ROW, "x")]),
    rows.writers: (("row", "cell"), [(ROW, "a"), (ROW, "x")]),
    rows.read_cells: (("row",), [(ROW,), (STILL,)]),
    rows.written_cells: (("row",), [(ROW,), (STILL,)]),
    rows.functions: (("row",), [(ROW,), (STILL,)]),
    rows.with_move: (("row", "number", "move"), [(ROW, 1, MOVE), (STILL, 0, MOVE), (ROW, 9, MOVE)]),
    rows.without_move: (("row", "number"), [(ROW, 1), (SINGLE, 0), (ROW, 3)]),
    rows.swapped: (("row", "number"), [(ROW, 1), (ROW, 2)]),
    rows.with_mark: (("row", "number"), [(ROW, 2), (ROW, 1)]),
    rows.without_mark: (("row", "number"), [(ROW, 1), (ROW, 2)]),
    rows.all_marked: (("row",), [(ROW,), (STILL,)]),
    rows.unmarked: (("row",), [(ROW,), (STILL,)]),
    rows.with_cell: (("row", "cell"), [(ROW, "c"), (ROW, "a")]),
    rows.without_cell: (("row", "cell"), [(STILL, "a"), (ROW, "a"), (ROW, "x")]),
    rows.with_wanted: (("row", "cells"), [(ROW, ("s",)), (ROW, ()), (ROW, ("a", "x"))]),
    rows.renamed: (("row", "cell", "new"), [(ROW, "a", "z"), (ROW, "x", "y"), (ROW, "a", "a"), (ROW, "a", "A")]),
    rows.joined: (("row", "other"), [(ROW, SMALL), (SMALL, ROW), (STILL, SMALL)]),
    rows.cut: (("row", "number"), [(ROW, 1), (ROW, 4)]),
    texts.names_text: (("names",), [(("a", "b"),), ((),)]),
    texts.numbers_text: (("numbers",), [((1, 0),), ((),)]),
    texts.moves_text: (("moves",), [(ROW[2],), ((),)]),
    texts.row_text: (("row",), [(ROW,), (FULL,), (STILL,)]),
    texts.names_from: (("text",), [("a b",), ("-",), ("",)]),
    texts.numbers_from: (("text",), [("1 0",), ("-",), ("",)]),
    texts.row_from: (("text",), [("cells a; wanted a; f to a",), ("cells a",), ("cells a; wanted b",)]),
}


def answer(function, *values, **named):
    try:
        return ("told", function(*values, **named))
    except RowError as error:
        return (error.__class__.__name__, vars(error))


def calls():
    for function, (names, samples) in SAMPLES.items():
        for values in samples:
            yield function, names, values


def with_lists(names, values):
    return [worth if name == "thing" else listed(worth) for name, worth in zip(names, values)]


class GeneralTest(unittest.TestCase):
    def test_the_interface_stands_where_it_is_listed(self):
        for module in (rows, texts):
            defined = {made.__name__: made for made in vars(module).values()
                       if inspect.isfunction(made) and made.__module__ == module.__name__}
            public = sorted(name for name in defined if not name.startswith("_"))
            listed_here = [function for function in SAMPLES if function.__module__ == module.__name__]
            self.assertEqual(public, sorted(function.__name__ for function in listed_here))
        self.assertEqual(len(SAMPLES), 33)

    def test_parameters_have_their_names(self):
        for function, (names, _) in SAMPLES.items():
            self.assertEqual(tuple(inspect.signature(function).parameters), names, function.__name__)

    def test_by_name(self):
        for function, names, values in calls():
            with self.subTest(function.__name__, values=values):
                named = dict(reversed(list(zip(names, values))))
                self.assertEqual(answer(function, **named), answer(function, *values))

    def test_lists_for_tuples(self):
        for function, names, values in calls():
            with self.subTest(function.__name__, values=values):
                told = answer(function, *values)
                self.assertEqual(answer(function, *with_lists(names, values)), told)
                self.assertEqual(answer(function, **dict(zip(names, with_lists(names, values)))), told)

    def test_a_list_at_any_one_depth(self):
        mixed = [
            [*ROW],
            ([*ROW[0]], *ROW[1:]),
            (ROW[0], [*ROW[1]], *ROW[2:]),
            (*ROW[:2], [*ROW[2]], ROW[3]),
            (*ROW[:2], (["copy", ("a",), "s"], ("f", ["a", "b"], "a"), ROW[2][2]), ROW[3]),
            (*ROW[:3], [*ROW[3]]),
        ]
        for function, names, values in calls():
            for row in mixed:
                others = [row if worth == ROW and name != "thing" else worth for name, worth in zip(names, values)]
                with self.subTest(function.__name__, values=others):
                    self.assertEqual(answer(function, *others), answer(function, *values))

    def test_nothing_that_is_returned_has_a_list(self):
        for function, names, values in calls():
            with self.subTest(function.__name__, values=values):
                self.assertFalse(has_list(answer(function, *with_lists(names, values))[1]))

    def test_arguments_are_unchanged(self):
        for function, names, values in calls():
            with self.subTest(function.__name__, values=values):
                handed = with_lists(names, values)
                before = copy.deepcopy(handed)
                answer(function, *handed)
                self.assertEqual(handed, before)

    def test_what_is_returned_is_not_tied_to_the_arguments(self):
        handed = listed(ROW)
        told = rows.with_mark(handed, 2)
        handed[2][0][1].append("b")
        handed[3].clear()
        self.assertEqual(told, ROW[:3] + ((1, 2),))

    def test_equal_answers_each_time(self):
        for function, names, values in calls():
            with self.subTest(function.__name__, values=values):
                self.assertEqual(answer(function, *values), answer(function, *values))

    def test_what_is_returned_may_be_passed_in_again(self):
        row = ROW
        for _ in range(6):
            row = rows.joined(row, row)
        self.assertEqual(len(row[2]), 3 * 64)
        self.assertTrue(rows.is_row(row))
        self.assertEqual(texts.row_from(texts.row_text(row)), row)
        self.assertEqual(rows.joined(*rows.cut(row, 96)), row)


if __name__ == "__main__":
    unittest.main()
