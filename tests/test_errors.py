"""Point 17 with the interface's heading atanywrite/errors.py."""

import inspect
import unittest

from atanywrite import errors

PARTS = {
    "BadLine": ("number",),
    "BadText": ("piece",),
    "CanNot": (),
    "Known": ("name",),
    "NoBlock": ("name",),
    "NoCell": ("name",),
    "NoClass": ("name",),
    "NoDevice": ("name",),
    "NoNumber": ("number",),
    "NoRow": ("name",),
    "NothingDone": (),
    "Unfit": (),
}


class ErrorsTest(unittest.TestCase):
    def test_row_error_stands_directly_under_value_error(self):
        self.assertEqual(errors.RowError.__bases__, (ValueError,))

    def test_each_stands_directly_under_row_error(self):
        for name in PARTS:
            with self.subTest(name):
                self.assertEqual(getattr(errors, name).__bases__, (errors.RowError,))
                self.assertTrue(issubclass(getattr(errors, name), ValueError))

    def test_there_are_no_others(self):
        found = [name for name, made in vars(errors).items() if inspect.isclass(made)]
        self.assertEqual(sorted(found), sorted(["RowError", *PARTS]))
        for name in found:
            self.assertEqual(getattr(errors, name).__module__, "atanywrite.errors")

    def test_values_by_place_are_kept(self):
        for name, parts in PARTS.items():
            for worth in (0, -7, 10 ** 20, "", "abc", "any string"):
                with self.subTest(name, worth=worth):
                    error = getattr(errors, name)(*[worth for _ in parts])
                    self.assertEqual(vars(error), {part: worth for part in parts})

    def test_values_by_name_are_kept(self):
        for name, parts in PARTS.items():
            for worth in (0, 5, "x"):
                with self.subTest(name, worth=worth):
                    error = getattr(errors, name)(**{part: worth for part in parts})
                    self.assertEqual(vars(error), {part: worth for part in parts})

    def test_other_values_are_refused(self):
        for name, parts in PARTS.items():
            with self.subTest(name):
                made = getattr(errors, name)
                with self.assertRaises(TypeError):
                    made(*["x" for _ in parts], "more")
                with self.assertRaises(TypeError):
                    made(other="x")
                if parts:
                    with self.assertRaises(TypeError):
                        made()

    def test_each_can_be_raised_and_caught(self):
        for name, parts in PARTS.items():
            with self.subTest(name):
                made = getattr(errors, name)
                for caught in (made, errors.RowError, ValueError):
                    with self.assertRaises(caught):
                        raise made(*[1 for _ in parts])

    def test_no_class_catches_another_one(self):
        for name, parts in PARTS.items():
            error = getattr(errors, name)(*[1 for _ in parts])
            catchers = [other for other in PARTS if isinstance(error, getattr(errors, other))]
            self.assertEqual(catchers, [name])


if __name__ == "__main__":
    unittest.main()
