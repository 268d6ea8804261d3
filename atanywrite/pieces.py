"""Words and pieces of texts, told right or wrong by their shape alone."""

from atanywrite.shapes import LETTERS, is_name

DIGITS = "0123456789"
# The words with which the first two pieces of a ROW begin.
HEADS = ("cells", "wanted")
TO = "to"
MARK = "mark"


def is_numeral(word):
    """Whether the word is a number without a needless 0 in front, however long."""
    # Python's own test for digits lets signs beyond 0 to 9 pass.
    if word == "" or not all([sign in DIGITS for sign in word]):
        return False
    return word == "0" or word[0] != "0"


def is_letters(word):
    """Whether the word is of small letters, however long."""
    return word != "" and all([sign in LETTERS for sign in word])


def move_piece(move):
    """The MOVE as a piece of a text."""
    name, reads, cell = move
    return " ".join([name, *reads, TO, cell])


def move_of(words):
    """The MOVE with these words."""
    return (words[0], tuple(words[1:-2]), words[-1])


def are_like_move(words):
    """Whether these words, each right by itself, stand as those of a MOVE do."""
    # Cells and functions may be called to as well: only the last but one decides.
    return len(words) > 2 and words[-2] == TO


def wrong_piece(pieces):
    """The number of the first piece of a ROW that is wrong, or lacking; None if all are right."""
    for place in range(len(pieces)):
        if not _is_right_at(pieces, place):
            return place
    return len(pieces) if len(pieces) < len(HEADS) else None


def _is_right_at(pieces, place):
    """Whether the piece at this place is written as it ought to be there."""
    words = pieces[place].split(" ")
    if not all([is_name(word) for word in words]):
        return False
    if place < len(HEADS):
        return words[0] == HEADS[place] and len(words) > 1
    if words == [MARK]:
        return len(HEADS) < place < len(pieces) - 1 and pieces[place - 1] != MARK
    return are_like_move(words)
