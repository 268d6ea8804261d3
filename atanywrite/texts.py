"""ROWS, names and numbers written as texts, and read back from them."""

from atanywrite.errors import BadText, Unfit
from atanywrite.rows import is_row
from atanywrite.shapes import is_name

DIGITS = "0123456789"
NOTHING = "-"
# The words with which the first two pieces of a ROW begin.
HEADS = ("cells", "wanted")
TO = "to"
MARK = "mark"
BETWEEN = "; "


def names_text(names):
    """The NAMEs with single blanks; - for none."""
    return " ".join(names) if names else NOTHING


def numbers_text(numbers):
    """The numbers with single blanks; - for none."""
    return names_text([str(number) for number in numbers])


def moves_text(moves):
    """The moves as pieces of a text; - for none."""
    return BETWEEN.join([_move_piece(move) for move in moves]) if moves else NOTHING


def row_text(row):
    """The text of the ROW."""
    cells, wanted, moves, marks = row
    pieces = [" ".join([HEADS[0], *cells]), " ".join([HEADS[1], *wanted])]
    for number, move in enumerate(moves):
        if number in marks:
            pieces.append(MARK)
        pieces.append(_move_piece(move))
    return BETWEEN.join(pieces)


def _move_piece(move):
    name, reads, cell = move
    return " ".join([name, *reads, TO, cell])


def names_from(text):
    """The tuple of the NAMEs that are so written."""
    return tuple(_words(text, is_name))


def numbers_from(text):
    """The tuple of the numbers that are so written."""
    return tuple([int(word) for word in _words(text, _is_numeral)])


def _words(text, is_right):
    if text == NOTHING:
        return []
    words = text.split(" ")
    for place, word in enumerate(words):
        if not is_right(word):
            raise BadText(place)
    return words


def _is_numeral(word):
    # Python's own test for digits lets signs beyond 0 to 9 pass.
    if word == "" or not all([sign in DIGITS for sign in word]):
        return False
    return word == "0" or word[0] != "0"


def row_from(text):
    """The ROW with this text."""
    pieces = text.split(BETWEEN)
    _check_pieces(pieces)
    moves = []
    marks = []
    for piece in pieces[len(HEADS):]:
        if piece == MARK:
            marks.append(len(moves))
        else:
            moves.append(_move_from(piece))
    row = (_names_behind(pieces[0]), _names_behind(pieces[1]), tuple(moves), tuple(marks))
    if not is_row(row):
        raise Unfit()
    return row


def _check_pieces(pieces):
    for place in range(len(pieces)):
        if not _is_right_at(pieces, place):
            raise BadText(place)
    if len(pieces) < len(HEADS):
        raise BadText(len(pieces))


def _is_right_at(pieces, place):
    """Whether the piece at this place is written as it ought to be there."""
    words = pieces[place].split(" ")
    if not all([is_name(word) for word in words]):
        return False
    if place < len(HEADS):
        return words[0] == HEADS[place] and len(words) > 1
    if words == [MARK]:
        return len(HEADS) < place < len(pieces) - 1 and pieces[place - 1] != MARK
    # Cells and functions may be called to as well: only the last but one decides.
    return len(words) > 2 and words[-2] == TO


def _names_behind(piece):
    return tuple(piece.split(" ")[1:])


def _move_from(piece):
    words = piece.split(" ")
    return (words[0], tuple(words[1:-2]), words[-1])
