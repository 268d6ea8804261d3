"""What EDITS and WORDS are made of, as tuples and as the words of texts."""

from atanywrite.pieces import are_like_move, is_letters, is_numeral
from atanywrite.shapes import is_name, is_number

CELL = "cell"
DEAD = "dead"
KEEPS = "keeps"
MARKED = "marked"
# What stands behind the first word of an EDIT.
A_NUMBER = "number"
A_CELL = "cell"
A_MOVE = "move"
EDIT_PARTS = {
    "insert": ("number", "move"),
    "remove": ("number",),
    "replace": ("number", "move"),
    "swap": ("number",),
    "mark": ("number",),
    "clear": ("number",),
    "cell": ("cell",),
    "drop": ("cell",),
    "want": ("cell",),
    "leave": ("cell",),
    "name": ("cell", "cell"),
}


def edit_parts(word):
    """The kinds of what stands behind this word in an EDIT; None if no EDIT begins with it."""
    return EDIT_PARTS.get(word)


def are_edit_words(words):
    """Whether an EDIT is written with these words."""
    parts = edit_parts(words[0])
    if parts is None:
        return False
    rest = words[1:]
    if A_MOVE in parts:
        return len(rest) > 1 and is_numeral(rest[0]) and _are_move_words(rest[1:])
    if len(rest) != len(parts):
        return False
    return all([is_numeral(word) if part == A_NUMBER else is_letters(word) for part, word in zip(parts, rest)])


def _are_move_words(words):
    return are_like_move(words) and is_name(words[0]) and all([is_letters(word) for word in words])


def is_word_of(row, thing):
    """Whether thing is a WORD of this ROW."""
    if thing == (KEEPS,):
        return True
    if not isinstance(thing, tuple) or len(thing) != 2:
        return False
    kind, part = thing
    if kind == CELL:
        return part in row[0]
    if not is_number(part) or part < 0:
        return False
    return kind == MARKED or kind == DEAD and part < len(row[2])


def are_word_words(words):
    """Whether a WORD of some ROW is written with these words."""
    if words == [KEEPS]:
        return True
    if len(words) != 2:
        return False
    if words[0] == CELL:
        return is_name(words[1])
    return words[0] in (DEAD, MARKED) and is_numeral(words[1])
