"""Point 2: lists for tuples, arguments by name, arguments unchanged, equal results, for each function."""

import copy
import inspect
import unittest

from atanywrite import rows, texts
from atanywrite.errors import RowError
from tests.common import ROW, has_list, list_at_each_depth, listed
from tests.samples import LISTED, LISTS, SAMPLES


def answer(function, *values, **named):
    try:
        return ("told", function(*values, **named))
    except RowError as error:
        return (error.__class__.__name__, vars(error))


def calls():
    for function, (names, samples) in SAMPLES.items():
        for values in samples:
            yield function, names, values


def with_lists(names, values):
    return [worth if name == "thing" else listed(worth) for name, worth in zip(names, values)]


class GeneralTest(unittest.TestCase):
    def test_the_interface_stands_where_it_is_listed(self):
        for module, many in LISTED.items():
            defined = {made.__name__: made for made in vars(module).values()
                       if inspect.isfunction(made) and made.__module__ == module.__name__}
            public = sorted(name for name in defined if not name.startswith("_"))
            listed_here = [function for function in SAMPLES if function.__module__ == module.__name__]
            self.assertEqual(public, sorted(function.__name__ for function in listed_here))
            self.assertEqual(len(public), many, module.__name__)

    def test_parameters_have_their_names(self):
        for function, (names, _) in SAMPLES.items():
            self.assertEqual(tuple(inspect.signature(function).parameters), names, function.__name__)

    def test_by_name(self):
        for function, names, values in calls():
            with self.subTest(function.__name__, values=values):
                named = dict(reversed(list(zip(names, values))))
                self.assertEqual(answer(function, **named), answer(function, *values))

    def test_lists_for_tuples(self):
        for function, names, values in calls():
            with self.subTest(function.__name__, values=values):
                told = answer(function, *values)
                self.assertEqual(answer(function, *with_lists(names, values)), told)
                self.assertEqual(answer(function, **dict(zip(names, with_lists(names, values)))), told)

    def test_a_list_at_any_one_depth(self):
        for function, names, values in calls():
            told = answer(function, *values)
            for at, worth in enumerate(values):
                for bent in list_at_each_depth(worth) if names[at] != "thing" else []:
                    with self.subTest(function.__name__, values=values, bent=bent):
                        self.assertEqual(answer(function, *values[:at], bent, *values[at + 1:]), told)

    def test_only_several_results_are_a_list(self):
        for function, names, values in calls():
            with self.subTest(function.__name__, values=values):
                kind, told = answer(function, *with_lists(names, values))
                if kind == "told" and function in LISTS:
                    self.assertIsInstance(told, list)
                    told = tuple(told)
                self.assertFalse(has_list(told))

    def test_lists_are_new(self):
        for function, names, values in calls():
            told = answer(function, *values)[1]
            if isinstance(told, list):
                before = list(told)
                told.append(None)
                self.assertEqual(function(*values), before)

    def test_arguments_are_unchanged(self):
        for function, names, values in calls():
            with self.subTest(function.__name__, values=values):
                handed = with_lists(names, values)
                before = copy.deepcopy(handed)
                answer(function, *handed)
                self.assertEqual(handed, before)

    def test_what_is_returned_is_not_tied_to_the_arguments(self):
        handed = listed(ROW)
        told = rows.with_mark(handed, 2)
        handed[2][0][1].append("b")
        handed[3].clear()
        self.assertEqual(told, ROW[:3] + ((1, 2),))

    def test_equal_answers_each_time(self):
        for function, names, values in calls():
            with self.subTest(function.__name__, values=values):
                self.assertEqual(answer(function, *values), answer(function, *values))

    def test_what_is_returned_may_be_passed_in_again(self):
        row = ROW
        for _ in range(6):
            row = rows.joined(row, row)
        self.assertEqual(len(row[2]), 3 * 64)
        self.assertTrue(rows.is_row(row))
        self.assertEqual(texts.row_from(texts.row_text(row)), row)
        self.assertEqual(rows.joined(*rows.cut(row, 96)), row)


if __name__ == "__main__":
    unittest.main()
