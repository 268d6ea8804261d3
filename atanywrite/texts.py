"""ROWS, names and numbers written as texts, and read back from them."""

from atanywrite.errors import BadText, Unfit
from atanywrite.pieces import HEADS, MARK, is_numeral, move_of, move_piece, wrong_piece
from atanywrite.rows import is_row
from atanywrite.shapes import is_name

NOTHING = "-"
BETWEEN = "; "


def names_text(names):
    """The NAMEs with single blanks; - for none."""
    return " ".join(names) if names else NOTHING


def numbers_text(numbers):
    """The numbers with single blanks; - for none."""
    return names_text([str(number) for number in numbers])


def moves_text(moves):
    """The moves as pieces of a text; - for none."""
    return BETWEEN.join([move_piece(move) for move in moves]) if moves else NOTHING


def row_text(row):
    """The text of the ROW."""
    cells, wanted, moves, marks = row
    pieces = [" ".join([HEADS[0], *cells]), " ".join([HEADS[1], *wanted])]
    for number, move in enumerate(moves):
        if number in marks:
            pieces.append(MARK)
        pieces.append(move_piece(move))
    return BETWEEN.join(pieces)


def names_from(text):
    """The tuple of the NAMEs that are so written."""
    return tuple(_words(text, is_name))


def numbers_from(text):
    """The tuple of the numbers that are so written."""
    return tuple([int(word) for word in _words(text, is_numeral)])


def _words(text, is_right):
    if text == NOTHING:
        return []
    words = text.split(" ")
    for place, word in enumerate(words):
        if not is_right(word):
            raise BadText(place)
    return words


def row_from(text):
    """The ROW with this text."""
    pieces = text.split(BETWEEN)
    wrong = wrong_piece(pieces)
    if wrong is not None:
        raise BadText(wrong)
    moves = []
    marks = []
    for piece in pieces[len(HEADS):]:
        if piece == MARK:
            marks.append(len(moves))
        else:
            moves.append(move_of(piece.split(" ")))
    row = (_names_behind(pieces[0]), _names_behind(pieces[1]), tuple(moves), tuple(marks))
    if not is_row(row):
        raise Unfit()
    return row


def _names_behind(piece):
    return tuple(piece.split(" ")[1:])
