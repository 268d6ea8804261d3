"""What README.md shows is what the program answers."""

import doctest
import pathlib
import unittest

README = pathlib.Path(__file__).resolve().parent.parent / "README.md"


class ReadmeTest(unittest.TestCase):
    def test_examples(self):
        found = doctest.testfile(str(README), module_relative=False, optionflags=doctest.IGNORE_EXCEPTION_DETAIL)
        self.assertGreater(found.attempted, 0)
        self.assertEqual(found.failed, 0)


if __name__ == "__main__":
    unittest.main()
