"""Point 5: texts of ROWS, names and numbers, and what reads them back."""

import unittest

from atanywrite.rows import all_marked, unmarked
from atanywrite.texts import (
    moves_text, names_from, names_text, numbers_from, numbers_text, row_from, row_text,
)
from tests.common import FULL, ROW, SINGLE, STILL, UNFIT, bad_text, refusal

HEAD = "cells a b; wanted a"


class RowTextTest(unittest.TestCase):
    def test_row_text(self):
        self.assertEqual(row_text(ROW), "cells a b s; wanted a b; copy a to s; mark; f a b to a; g s to b")
        self.assertEqual(row_text(STILL), "cells a b; wanted b")
        self.assertEqual(row_text(SINGLE), "cells a; wanted a; f to a")
        self.assertEqual(row_text(FULL), "cells a b c d; wanted d; f a to b; mark; copy b to c; mark; g to a; mark; "
                                         "f c a b to c; mark; mix c b to b")
        self.assertEqual(row_text(unmarked(ROW)), "cells a b s; wanted a b; copy a to s; f a b to a; g s to b")

    def test_moves_text(self):
        self.assertEqual(moves_text(ROW[2]), "copy a to s; f a b to a; g s to b")
        self.assertEqual(moves_text(ROW[2][:1]), "copy a to s")
        self.assertEqual(moves_text(SINGLE[2]), "f to a")
        self.assertEqual(moves_text(()), "-")
        self.assertEqual(moves_text([]), "-")

    def test_there_and_back(self):
        words = (("mark", "to", "wanted"), ("to",), (
            ("to", ("to", "mark"), "to"), ("mark", (), "to"), ("cells", ("wanted",), "to"), ("wanted", (), "mark"),
            ("copy", ("to",), "to")), (2, 4))
        for row in (ROW, STILL, SINGLE, FULL, words, all_marked(words), unmarked(words)):
            self.assertEqual(row_from(row_text(row)), row)
            self.assertEqual(row_text(row_from(row_text(row))), row_text(row))

    def test_row_from(self):
        self.assertEqual(row_from("cells a; wanted a"), (("a",), ("a",), (), ()))
        self.assertEqual(row_from(HEAD + "; f to a; mark; copy a to b; g b a to a"),
                         (("a", "b"), ("a",), (("f", (), "a"), ("copy", ("a",), "b"), ("g", ("b", "a"), "a")), (1,)))
        self.assertEqual(row_from("cells to; wanted to; to to to; to to to to"),
                         (("to",), ("to",), (("to", (), "to"), ("to", ("to",), "to")), ()))


class WrongRowTextTest(unittest.TestCase):
    def wrong(self, text, piece):
        self.assertEqual(refusal(row_from, text), bad_text(piece), text)

    def unfit(self, text):
        self.assertEqual(refusal(row_from, text), UNFIT, text)

    def test_the_first_piece(self):
        for text in ("", " ", "-", "cells", "cells ", "cell a", "Cells a", "wanted a", "mark", "f to a", "cells  a",
                     " cells a", "cells a ", "cells A", "cells a1", "cells ninechars", "cells a,b", "cells a;",
                     "cells a;wanted a", "cells a\n", "cells\ta", "cells \u00e4", "; wanted a", "a", "cells a ; wanted a"):
            self.wrong(text, 0)
            self.wrong(text + "; wanted a; f to a", 0)

    def test_the_second_piece(self):
        for piece in ("", " ", "wanted", "wanted ", "want a", "cells a", "mark", "f to a", "wanted  a", " wanted a",
                      "wanted a ", "wanted A", "wanted a1", "wanted a,b", "wanted ninechars", "wanted a;", "-"):
            self.wrong("cells a; " + piece, 1)
            self.wrong("cells a; " + piece + "; f to a", 1)

    def test_the_wanted_ones_are_lacking(self):
        self.wrong("cells a", 1)
        self.wrong("cells a b c", 1)
        self.wrong("cells b a", 1)

    def test_a_wrong_move(self):
        for piece in ("", " ", "-", "f", "to", "f a", "f to", "to a", "f a b", "f a to", "f to a ", " f to a", "f  to a",
                      "f to  a", "f to A", "F to a", "f A to a", "f 1 to a", "f to 1", "f to a;", "f, to a",
                      "ninechars to a", "f ninechars to a", "f to ninechars", "f to a b", "f a To b", "mark ", " mark",
                      "mark a", "mark mark", "Mark", "wanted a", "cells a b", "f to a\n", "f to \u00e4"):
            self.wrong(HEAD + "; " + piece, 2)
            self.wrong(HEAD + "; " + piece + "; mark; f to a", 2)
            self.wrong(HEAD + "; f to a; mark; g a to b; " + piece, 5)
            self.wrong(HEAD + "; f to a; " + piece + "; g a to b", 3)

    def test_marks_where_they_may_not_stand(self):
        self.wrong(HEAD + "; mark", 2)
        self.wrong(HEAD + "; mark; f to a", 2)
        self.wrong(HEAD + "; mark; mark; f to a", 2)
        self.wrong(HEAD + "; f to a; mark", 3)
        self.wrong(HEAD + "; f to a; mark; mark", 4)
        self.wrong(HEAD + "; f to a; mark; mark; f to a", 4)
        self.wrong(HEAD + "; f to a; mark; g to a; mark", 5)
        self.wrong("cells a; mark; wanted a", 1)
        self.wrong("mark; cells a; wanted a", 0)

    def test_the_first_of_several_wrong_pieces(self):
        self.wrong("cells; wanted; mark", 0)
        self.wrong("cells a; wanted; mark", 1)
        self.wrong("cells a; wanted a; mark; f to A", 2)
        self.wrong("cells a; wanted a; f to A; mark", 2)
        self.wrong("cells a; wanted a; f to a; mark; f a", 4)
        self.wrong("cells a; wanted a; f to a; f to A; mark; mark", 3)

    def test_cut_at_semicolon_and_blank_only(self):
        self.wrong(HEAD + ";f to a", 1)
        self.wrong(HEAD + "; f to a;", 2)
        self.wrong(HEAD + "; f to a; ", 3)
        self.wrong(HEAD + ";  f to a", 2)
        self.wrong(HEAD + "; f to a\nf to a", 2)
        self.wrong(HEAD + "\n; f to a", 1)
        self.wrong(HEAD + "; f to a; ; f to b", 3)

    def test_no_row(self):
        for text in ("cells b a; wanted a", "cells a a; wanted a", "cells a b; wanted b a", "cells a; wanted b",
                     "cells a; wanted a a", HEAD + "; f to c", HEAD + "; f c to a", HEAD + "; f a a to b",
                     HEAD + "; copy to a", HEAD + "; copy a b to a", HEAD + "; old a to b", HEAD + "; spoilt to b",
                     HEAD + "; f to a; mark; g to c"):
            self.unfit(text)

    def test_wrong_pieces_come_ahead_of_no_row(self):
        self.wrong("cells b a; wanted a; f to A", 2)
        self.wrong("cells a; wanted b; old to a; mark", 3)
        self.wrong("cells a; wanted b; copy to a; f", 3)


class NamesAndNumbersTest(unittest.TestCase):
    def test_names_text(self):
        self.assertEqual(names_text(("a", "b", "longname")), "a b longname")
        self.assertEqual(names_text(("b", "a", "b")), "b a b")
        self.assertEqual(names_text(("a",)), "a")
        self.assertEqual(names_text(()), "-")
        self.assertEqual(names_text([]), "-")

    def test_numbers_text(self):
        self.assertEqual(numbers_text((0, 10, 7, 7)), "0 10 7 7")
        self.assertEqual(numbers_text((0,)), "0")
        self.assertEqual(numbers_text((10 ** 39,)), "1" + "0" * 39)
        self.assertEqual(numbers_text(()), "-")
        self.assertEqual(numbers_text([]), "-")

    def test_names_from(self):
        for names in ((), ("a",), ("b", "a", "b"), ("old", "spoilt", "copy", "eightabc")):
            self.assertEqual(names_from(names_text(names)), names)

    def test_numbers_from(self):
        for numbers in ((), (0,), (0, 0), (10, 1, 100), (10 ** 9, 0, 5), (10 ** 39,)):
            self.assertEqual(numbers_from(numbers_text(numbers)), numbers)

    def test_wrong_names(self):
        for text, piece in (("", 0), (" ", 0), ("a ", 1), (" a", 0), ("a  b", 1), ("a b ", 2), ("- a", 0), ("a -", 1),
                            ("--", 0), (" -", 0), ("- ", 0), ("a B", 1), ("a b1 C", 1), ("ninechars", 0), ("a,b", 0),
                            ("a\nb", 0), ("a b\n", 1), ("a\tb", 0), ("a \u00e4", 1), ("a b c 1", 3), ("-\n", 0)):
            self.assertEqual(refusal(names_from, text), bad_text(piece), text)

    def test_wrong_numbers(self):
        for text, piece in (("", 0), (" ", 0), ("1 ", 1), (" 1", 0), ("1  2", 1), ("- 1", 0), ("1 -", 1), ("-1", 0),
                            ("+1", 0), ("01", 0), ("00", 0), ("1 2 003", 2), ("0 00", 1), ("1.0", 0), ("1_0", 0),
                            ("a", 0), ("1 b 01", 1), ("1,2", 0), ("1\n", 0), ("1\n2", 0), ("\u00b2", 0), ("\u0661", 0),
                            ("0x1", 0), ("1x", 0), ("1 2 \uff11", 2), ("--", 0)):
            self.assertEqual(refusal(numbers_from, text), bad_text(piece), text)


if __name__ == "__main__":
    unittest.main()
