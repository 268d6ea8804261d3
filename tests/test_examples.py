"""The example sessions of the document, each line with its answer."""

import unittest

from atanywrite import errors, rows, texts
from atanywrite.errors import RowError

ROWS_AND_TEXTS = '''
>>> row = (("a", "b", "s"), ("a", "b"), (("copy", ("a",), "s"), ("f", ("a", "b"), "a"), ("g", ("s",), "b")), (1,))
>>> spots(row), stretches(row), stretch_of(row, 2), readers(row, "a"), writers(row, "b"), functions(row), read_cells(row)
((0, 1, 3), ((0, 1), (1, 3)), (1, 3), (0, 1), (2,), ('copy', 'f', 'g'), ('a', 'b', 's'))
>>> row_text(row), row_from(row_text(row)) == row, moves_text(row[2][:1])
('cells a b s; wanted a b; copy a to s; mark; f a b to a; g s to b', True, 'copy a to s')
>>> with_mark(row, 2)[3], without_mark(row, 1)[3], with_move(row, 1, ("h", (), "s"))[3], without_move(row, 0)[3], cut(row, 2)[1][2:]
((1, 2), (), (1,), (), ((('g', ('s',), 'b'),), ()))
>>> row_from("cells a; wanted a; mark; f to a")
raises BadText(piece=2)
>>> without_cell(row, "s")
raises Unfit()
'''


def told(error):
    parts = ", ".join(f"{name}={worth!r}" for name, worth in vars(error).items())
    return f"raises {error.__class__.__name__}({parts})"


def play(session):
    """For each line of the session that has an answer: the line, this answer, and what came."""
    names = {**vars(errors), **vars(rows), **vars(texts)}
    lines = session.strip().split("\n")
    played = []
    for at, line in enumerate(lines):
        if not line.startswith(">>> "):
            continue
        answer = lines[at + 1] if at + 1 < len(lines) else ">>> "
        if answer.startswith(">>> "):
            exec(line[4:], names)
            continue
        try:
            came = repr(eval(line[4:], names))
        except RowError as error:
            came = told(error)
        played.append((line, answer, came))
    return played


class ExamplesTest(unittest.TestCase):
    def test_rows_and_texts(self):
        played = play(ROWS_AND_TEXTS)
        self.assertEqual(len(played), 5)
        for line, answer, came in played:
            self.assertEqual(came, answer, line)


if __name__ == "__main__":
    unittest.main()
