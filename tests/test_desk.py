"""Point 16: the desk."""

import itertools
import time
import unittest

from atanywrite.board import Board
from atanywrite.claims import word_text
from atanywrite.desk import edit_from, edit_text, is_request, replies, term_from, term_text
from atanywrite.errors import RowError
from atanywrite.losses import hazards, keeps
from atanywrite.marks import fewest_marking
from atanywrite.texts import row_text
from tests import brute
from tests.common import ROW, SINGLE, STILL, STRANGE, bad_text, listed, nested, refusal
from tests.samples import SURE, SWAP, TALE
from tests.samples_board import DEED_TEXT, MIX

ROWS = [ROW, STILL, SINGLE, SWAP, SURE, TALE, MIX]
EDITS = [
    ("insert", 0, ("f", (), "a")), ("insert", 12, ("copy", ("a",), "longercell")), ("replace", 3, ("to", ("to", "mark"), "to")),
    ("remove", 0), ("swap", 10), ("mark", 1), ("clear", 2), ("cell", "z"), ("cell", "longercellyet"), ("drop", "a"), ("want", "cells"),
    ("leave", "b"), ("name", "a", "b"), ("name", "name", "longercell"),
]
EDIT_TEXTS = [
    "insert 0 f to a", "insert 12 copy a to longercell", "replace 3 to to mark to to", "remove 0", "swap 10", "mark 1", "clear 2", "cell z",
    "cell longercellyet", "drop a", "want cells", "leave b", "name a b", "name name longercell",
]
SIGNS = "abzfg019 ,();-A\n"


def bent(text):
    """The text with one sign left out, put in or replaced."""
    for at in range(len(text) + 1):
        yield text[:at] + text[at + 1:]
        for sign in SIGNS:
            yield text[:at] + sign + text[at:]
            yield text[:at] + sign + text[at + 1:]


def no_line(number):
    return ("BadLine", {"number": number})


class TermTest(unittest.TestCase):
    def test_there_and_back(self):
        terms = [("old", "a"), ("old", "old"), ("old", "copy"), ("spoilt", 0), ("spoilt", 10), ("f", ()), ("g", (("f", ()), ("f", ())))]
        for row in ROWS:
            for play in brute.plays(row, 2):
                terms += brute.contents(row, brute.run(row, play)[1][-1])
        for term in terms:
            self.assertEqual(term_from(term_text(term)), term)
            self.assertEqual(term_text(listed(term)), term_text(term))

    def test_texts(self):
        self.assertEqual(term_text(("f", (("old", "a"), ("spoilt", 12), ("g", (("h", ()),))))), "f(a, 12, g(h()))")
        self.assertEqual([term_text(term) for term in (("old", "a"), ("spoilt", 0), ("f", ()))], ["a", "0", "f()"])
        self.assertEqual(term_from("9" * 40), ("spoilt", int("9" * 40)))

    def test_texts_that_are_no_terms(self):
        for text in (
            "", " ", "A", "a b", "a,b", "a, b", " a", "a ", "01", "00", "-1", "1a", "ninechars", "f(", "f)", "f()()", "f(a))", "(a)", "()", "f (a)",
            "f(a,b)", "f(a,  b)", "f( a)", "f(a )", "f(a, )", "f(, a)", "f(,)", "copy(a)", "copy()", "old(a)", "spoilt(1)", "ninechars(a)", "3(a)",
            "F(a)", "f(A)", "f(01)", "f(a)\n", "f(a)b", "b f(a)", "f(a)(b)", "f((a))", "f(a, b", "a)", "a(", "\u00e4", "\u0661", "\u00b2", ",", ", ", "f(a;b)",
        ):
            self.assertEqual(refusal(term_from, text), bad_text(0), text)

    def test_bent_in_one_place(self):
        for text in ("f(a, g(), 12)", "ab", "10", "f(g(h(a)))"):
            for other in bent(text):
                if refusal(term_from, other) is None:
                    self.assertEqual(term_text(term_from(other)), other)
                else:
                    self.assertEqual(refusal(term_from, other), bad_text(0))

    def test_deep_ones(self):
        term = ("old", "a")
        for _ in range(3000):
            term = ("f", (term,))
        text = term_text(term)
        self.assertEqual((len(text), text[:6], text[-3:]), (3000 * 3 + 1, "f(f(f(", ")))"))
        self.assertEqual(term_text(term_from(text)), text)


class EditTest(unittest.TestCase):
    def test_there_and_back(self):
        for edit, text in zip(EDITS, EDIT_TEXTS, strict=True):
            self.assertEqual((edit_text(edit), edit_text(listed(edit)), edit_from(text)), (text, text, edit))
        self.assertEqual(edit_from("mark " + "9" * 40), ("mark", int("9" * 40)))

    def test_shape_alone(self):
        # Cells are any words of small letters; whether a MOVE or a ROW comes of it is asked later.
        self.assertEqual(edit_from("insert 0 old a a to b"), ("insert", 0, ("old", ("a", "a"), "b")))
        self.assertEqual(edit_from("replace 9 copy to to"), ("replace", 9, ("copy", (), "to")))

    def test_texts_that_are_no_edits(self):
        for text in (
            "", " ", "insert", "insert 0", "insert 0 f", "insert 0 f a", "insert 0 f a b", "insert 0 to a", "insert f to a", "insert 00 f to a",
            "insert 0 f to", "insert 0 F to a", "insert 0 f A to a", "insert 0 f to a ", "insert  0 f to a", "insert 0 ninechars to a", "insert -1 f to a",
            "insert 0 f to a b", "remove", "remove a", "remove 0 0", "remove -1", "remove 01", "remove 0 f to a", "swap", "mark x", "clear 1 ", " mark 1",
            "cell", "cell A", "cell a b", "cell 1", "cell ", "drop", "want a,b", "leave a ", "name a", "name a b c", "name a 1", "name  a b", "nam a b",
            "Mark 1", "mark 1\n", "cell \u00e4", "mark \u0661",
        ):
            self.assertEqual(refusal(edit_from, text), bad_text(0), text)

    def test_bent_in_one_place(self):
        for text in EDIT_TEXTS:
            for other in bent(text):
                if refusal(edit_from, other) is None:
                    self.assertEqual(edit_text(edit_from(other)), other)
                else:
                    self.assertEqual(refusal(edit_from, other), bad_text(0))


REQUESTS = [
    "undo", "names", "deeds", "put x cells a; wanted a", "put x cells a b; wanted b; f a to b; mark; g to a", "drop x", "rename x y", "rename x x",
    "lose x 0", "lose x 10", "lose x " + "9" * 5000, "keep x keeps", "keep x cell a", "keep x dead 3", "free x marked 0", "keep x dead " + "7" * 5000,
    "row x", "play x", "spot x", "contents x", "end x", "holds x", "hazards x", "marking x", "words x", "standing x", "lost x", "sure x",
    "spoilt x mark 1", "mended x name a longercell", "put undo cells cells; wanted cells; to to cells", "drop drop", "edit edit drop drop",
    "put x cells b a; wanted z; old z to q", *["edit x " + text for text in EDIT_TEXTS], "edit x mark " + "8" * 5000,
]
NO_REQUESTS = [
    "", " ", "undo ", " undo", "undo x", "names x", "deeds 1", "Undo", "put", "put x", "put x ", "put X cells a; wanted a", "put x cells a", "put x wanted a",
    "put x cells a; wanted a;", "put x cells a; wanted a; mark; f to a", "put x cells a;wanted a", "put x  cells a; wanted a", "put cells a; wanted a",
    "drop", "drop ", "drop X", "drop x y", "drop x ", "drop  x", "rename x", "rename x Y", "rename x y z", "rename x ninechars", "lose x", "lose x a", "lose x -1",
    "lose x 00", "lose x 01", "lose x 1 2", "keep x", "keep x keep", "keep x dead", "keep x dead 01", "keep x cell A", "keep x cell longercell", "free x",
    "keep x keeps ", "row", "row X", "row x y", "holds 1", "edit x", "edit x mark", "edit x mark 01", "edit x cell A", "spoilt x", "mended x keeps", "ask x", "ask x 1",
    "edit x insert 0 f a b", "put x -", "row ninechars", "words x; names", "names;", "undo\u00a0",
]


class RequestTest(unittest.TestCase):
    def test_requests(self):
        for text in REQUESTS:
            self.assertIs(is_request(text), True, text)
            for at, sign in enumerate(text):
                # A line that goes on begins with a blank, which stands.
                if sign == " ":
                    self.assertIs(is_request(text[:at] + "\n" + text[at:]), True)
                    self.assertIs(is_request(text[:at] + "\n" + text[at + 1:]), False)
            self.assertIs(is_request(text + "\n"), False)
            self.assertIs(is_request("\n" + text), False)
            self.assertIs(is_request(text + "\n "), False)
            self.assertIs(is_request(text + "\nnames"), False)

    def test_no_requests(self):
        for text in NO_REQUESTS:
            self.assertIs(is_request(text), False, text)

    def test_things_of_other_kinds(self):
        for thing in STRANGE + [nested(29), ("names",), ["names"], ("n", "a"), 5]:
            self.assertIs(is_request(thing), False, thing)

    def test_bad_lines(self):
        for text in NO_REQUESTS[1:]:
            self.assertEqual(refusal(replies, text), no_line(0), text)
            self.assertEqual(refusal(replies, "names\n\nundo".replace("\n\n", "\nput x cells a;\n wanted a\n") + "\n" * (text[:1] != " ") + text),
                             no_line(4 if text[:1] != " " else 3), text)
        self.assertEqual(refusal(replies, "\n"), no_line(0))
        self.assertEqual(refusal(replies, "names\n"), no_line(1))
        self.assertEqual(refusal(replies, "names\n\nnames"), no_line(1))
        self.assertEqual(refusal(replies, " names"), no_line(0))
        self.assertEqual(refusal(replies, " \nnames"), no_line(0))
        # The line at which the request begins, not that at which it goes wrong.
        self.assertEqual(refusal(replies, "names\nput x cells a;\n wanted a;\n f to A\nnames"), no_line(1))
        # Ahead of all else, though what stands ahead is refused.
        self.assertEqual(refusal(replies, "undo\nput x cells a; wanted b\nx"), no_line(2))

    def test_no_text(self):
        self.assertEqual(replies(""), [])
        told = replies("names")
        told.append(1)
        self.assertEqual(replies("names"), ["-"])


def terms_text(cells, terms):
    return "; ".join(cell + " = " + term_text(term) for cell, term in zip(cells, terms))


def dashed(words, between):
    return between.join(words) or "-"


def asked(board, word, name):
    """The reply to a question, as the table tells it, by what the Board tells."""
    if word in ("words", "standing", "lost", "sure"):
        return dashed(map(word_text, getattr(board, word)(name)), "; ")
    marking = fewest_marking(board[name])
    return {
        "row": row_text(board[name]), "play": dashed(map(str, board.play(name)), " "), "spot": str(board.spot(name)),
        "contents": terms_text(board[name][0], board.contents(name)), "end": terms_text(board[name][1], board.end(name)),
        "holds": "yes" if keeps(board[name]) else "no", "hazards": dashed([" ".join(map(str, one)) for one in hazards(board[name])], "; "),
        "marking": "none" if marking is None else dashed(map(str, marking), " "),
    }[word]


QUESTIONS = ("row", "play", "spot", "contents", "end", "holds", "hazards", "marking", "words", "standing", "lost", "sure")
DEEDS = [
    ("put", "x", SWAP), ("put", "x", ROW), ("put", "y", MIX), ("drop", "y"), ("rename", "x", "z"), ("rename", "x", "y"), ("edit", "x", ("mark", 1)),
    ("edit", "x", ("mark", 9)), ("edit", "x", ("cell", "a")), ("edit", "x", ("drop", "q")), ("lose", "x", 1), ("lose", "x", 7), ("keep", "x", ("keeps",)),
    ("keep", "x", ("cell", "t")), ("keep", "x", ("dead", 9)), ("free", "x", ("keeps",)), ("undo",), ("edit", "x", ("insert", 0, ("f", ("a",), "t"))),
    ("edit", "x", ("want", "b")),
]


def line_of(deed):
    word, *parts = deed
    last = []
    for part in parts[1:]:
        if word == "put":
            last.append(row_text(part))
        elif word == "edit":
            last.append(edit_text(part))
        else:
            last.append(word_text(part) if isinstance(part, tuple) else str(part))
    return " ".join([word, *parts[:1], *last])


class DeskTest(unittest.TestCase):
    def test_the_same_deeds_at_a_board(self):
        for at, deeds in enumerate(itertools.product(DEEDS, repeat=3)):
            if at % 3 == 0:
                self.check((DEEDS[0], *deeds))

    def check(self, deeds):
        board = Board()
        lines, told = [], []
        for deed in deeds:
            lines.append(line_of(deed))
            wrong = refusal(getattr(board, deed[0]), *deed[1:])
            told.append("done" if wrong is None else "refused " + wrong[0])
        lines += ["names", "deeds"]
        told += [dashed(board.names, " "), str(board.deeds)]
        for name in board.names:
            for word in QUESTIONS:
                lines.append(word + " " + name)
                told.append(asked(board, word, name))
            for edit in (("mark", 2), ("clear", 1), ("remove", 0)):
                for word, method in (("spoilt", board.spoilt_by), ("mended", board.mended_by)):
                    lines.append(word + " " + name + " " + edit_text(edit))
                    wrong = refusal(method, name, edit)
                    told.append("refused " + wrong[0] if wrong else dashed(map(word_text, method(name, edit)), "; "))
        self.assertEqual(replies("\n".join(lines)), told, lines)
        self.assertEqual(replies("\n".join(lines).replace(" ", "\n ")), told)

    def test_nobodys_names(self):
        for line in REQUESTS:
            if "9" * 50 in line or "8" * 50 in line or "7" * 50 in line or line.split(" ")[0] in ("put", "undo", "names", "deeds"):
                continue
            self.assertEqual(replies(line), ["refused NoRow"], line)
        self.assertEqual(replies("undo\nnames\ndeeds"), ["refused NothingDone", "-", "0"])

    def test_rows_that_are_none_are_refused_ahead_of_what_the_board_tells(self):
        self.assertEqual(replies("put x cells a; wanted a\nput x cells b a; wanted a\nput x cells a; wanted a\nnames\ndeeds"),
                         ["done", "refused Unfit", "refused Known", "x", "1"])

    def test_edits_that_are_well_written_but_refused(self):
        start = "put x cells a b; wanted a; f b to a; g a to b\n"
        for text, told in (
            ("insert 0 old a to b", "Unfit"), ("insert 3 old a to b", "NoNumber"), ("insert 0 copy a b to b", "Unfit"), ("insert 0 f a a to b", "Unfit"),
            ("insert 0 f a to longercell", "Unfit"), ("cell longercell", "Unfit"), ("drop longercell", "NoCell"), ("name a longercell", "Unfit"),
            ("replace 0 f b to a", "Unfit"), ("replace 2 f b to a", "NoNumber"), ("swap 1", "NoNumber"), ("mark 0", "NoNumber"), ("mark " + "9" * 40, "NoNumber"),
            ("clear 1", "NoNumber"), ("want a", "Unfit"), ("leave a", "Unfit"), ("leave c", "NoCell"), ("name a b", "Known"), ("cell b", "Known"),
        ):
            self.assertEqual(replies(start + "edit x " + text + "\ndeeds"), ["done", "refused " + told, "1"], text)

    def test_nothing_is_told_as_a_dash(self):
        told = replies("put x cells a; wanted a\nplay x\nhazards x\nmarking x\nwords x\nstanding x\nlost x\nsure x\nspoilt x cell b\nmended x cell b\nspot x")
        self.assertEqual(told, ["done", *["-"] * 9, "0"])

    def test_lost_words(self):
        text = "put x cells a b; wanted a\nkeep x cell b\nkeep x marked 0\nedit x name b c\nwords x\nlost x\nstanding x\nsure x\nmended x name c b\nspoilt x cell q"
        self.assertEqual(replies(text), ["done"] * 4 + ["cell b; marked 0", "cell b", "marked 0", "marked 0", "cell b", "-"])

    def test_long_ones_are_answered_soon(self):
        started = time.perf_counter()
        row = "cells a b c; wanted a b c; f a b to a; g b c to b; h c a to c; mark; f a b to a; g b c to b; h c a to c"
        lines = ["put x " + row, "keep x keeps", "lose x 1", "lose x 2", "contents x", "end x", "sure x", "mended x mark 1", "edit x mark 1", "words x"]
        self.assertEqual(len(replies("\n".join(lines + ["hazards x", "marking x"]))), 12)
        replies("\n".join(["put x " + row, *["keep x marked 0"] * 90]))
        self.assertIs(is_request(DEED_TEXT), False)
        self.assertLess(time.perf_counter() - started, 2)


if __name__ == "__main__":
    unittest.main()
