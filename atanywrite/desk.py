"""A desk: requests to a Board as lines of text, and the replies to them."""

from atanywrite.board import Board
from atanywrite.claims import word_from, word_text
from atanywrite.errors import BadLine, BadText, Known, NoCell, NoNumber, NoRow, NothingDone, Unfit
from atanywrite.losses import hazards, keeps
from atanywrite.marks import fewest_marking
from atanywrite.pieces import is_numeral, move_of, move_piece, wrong_piece
from atanywrite.shapes import NO_FUNCTIONS, is_name, is_number
from atanywrite.terms import is_term
from atanywrite.texts import BETWEEN, NOTHING, names_text, numbers_text, row_from, row_text
from atanywrite.wordings import A_MOVE, A_NUMBER, are_edit_words, are_word_words, edit_parts

# Requests without a name; those of which the reply is done; those that ask for something. The last two have a name,
# and behind it what is told here.
ALONE = ("undo", "names", "deeds")
DEEDS = {
    "put": "row", "drop": "nothing", "rename": "name", "edit": "edit", "lose": "number", "keep": "word", "free": "word",
}
QUESTIONS = {
    "row": "nothing", "play": "nothing", "spot": "nothing", "contents": "nothing", "end": "nothing",
    "holds": "nothing", "hazards": "nothing", "marking": "nothing", "words": "nothing", "standing": "nothing",
    "lost": "nothing", "sure": "nothing", "spoilt": "edit", "mended": "edit",
}
DONE = "done"


def term_text(term):
    """The TERM as a text."""
    # What is still to be written, the next one last; strings stand as they are.
    todo = [term]
    written = []
    while todo:
        part = todo.pop()
        if isinstance(part, str):
            written.append(part)
        elif part[0] in NO_FUNCTIONS:
            written.append(str(part[1]))
        else:
            written.append(part[0] + "(")
            todo.append(")")
            todo.extend(_with_commas(part[1])[::-1])
    return "".join(written)


def _with_commas(terms):
    """The TERMS with what is written between two."""
    found = []
    for term in terms:
        found.extend([", ", term])
    return found[1:]


def term_from(text):
    """The TERM with this text."""
    term = _read_loosely(text)
    # What is read is right if it is a TERM and written just so.
    if not is_term(term) or term_text(term) != text:
        raise BadText(0)
    return term


def _read_loosely(text):
    """What the text tells by its words and brackets, wherever blanks and commas stand; None if it is not one thing."""
    names = []
    open_terms = [[]]
    word = ""
    for sign in text + ",":
        if sign == "(":
            names.append(word.strip(" "))
            open_terms.append([])
        elif sign in ",)" and word != "":
            open_terms[-1].append(_leaf(word))
        if sign == ")":
            if names == []:
                return None
            parts = tuple(open_terms.pop())
            open_terms[-1].append((names.pop(), parts))
        word = "" if sign in "(,)" else word + sign
    return open_terms[0][0] if len(open_terms[0]) == 1 else None


def _leaf(word):
    """The TERM without PARTS that this word tells."""
    told = word.strip(" ")
    return ("spoilt", int(told)) if is_numeral(told) else ("old", told)


def edit_text(edit):
    """The EDIT as a text."""
    return " ".join([_part_text(part) for part in edit])


def _part_text(part):
    if isinstance(part, str):
        return part
    return str(part) if is_number(part) else move_piece(part)


def edit_from(text):
    """The EDIT with this text."""
    words = text.split(" ")
    if not are_edit_words(words):
        raise BadText(0)
    return _edit_of(words)


def _edit_of(words):
    """The EDIT that is written with these words."""
    parts = edit_parts(words[0])
    if A_MOVE in parts:
        return (words[0], int(words[1]), move_of(words[2:]))
    told = [int(word) if part == A_NUMBER else word for part, word in zip(parts, words[1:])]
    return (words[0], *told)


def is_request(thing):
    """Whether thing is a string that is one request, by its shape alone."""
    if not isinstance(thing, str):
        return False
    requests = _requests(thing)
    return len(requests) == 1 and _is_right(requests[0][1])


def _requests(text):
    """The pairs of the number of the line at which a request begins, and all of its lines joined."""
    found = []
    for number, line in enumerate(text.split("\n")):
        if found and line.startswith(" "):
            begun, ahead = found.pop()
            found.append((begun, ahead + line))
        else:
            found.append((number, line))
    return found


def _is_right(request):
    words = request.split(" ")
    if words[0] in ALONE:
        return len(words) == 1
    kind = DEEDS.get(words[0], QUESTIONS.get(words[0]))
    if kind is None or len(words) < 2 or not is_name(words[1]):
        return False
    rest = words[2:]
    return rest == [] if kind == "nothing" else rest != [] and _is_right_behind(kind, rest)


def _is_right_behind(kind, words):
    """Whether these words, one or more, may stand behind the name where something of this kind does."""
    if kind == "row":
        return wrong_piece(" ".join(words).split(BETWEEN)) is None
    if kind == "edit":
        return are_edit_words(words)
    if kind == "word":
        return are_word_words(words)
    return len(words) == 1 and (is_name(words[0]) if kind == "name" else is_numeral(words[0]))


def replies(text):
    """The list of the replies to the requests in the text, put to a new Board."""
    if text == "":
        return []
    requests = _requests(text)
    for number, request in requests:
        if not _is_right(request):
            raise BadLine(number)
    board = Board()
    found = []
    for _, request in requests:
        found.append(_reply(board, request.split(" ")))
    return found


def _reply(board, words):
    """The reply to the request with these words."""
    try:
        return _answer(board, words)
    except Known:
        return "refused Known"
    except NoCell:
        return "refused NoCell"
    except NoNumber:
        return "refused NoNumber"
    except NoRow:
        return "refused NoRow"
    except NothingDone:
        return "refused NothingDone"
    except Unfit:
        return "refused Unfit"


def _answer(board, words):
    """The reply to the request with these words, if it is not refused."""
    if words[0] == "names":
        return names_text(board.names)
    if words[0] == "deeds":
        return str(board.deeds)
    if words[0] == "undo":
        board.undo()
        return DONE
    if words[0] in DEEDS:
        _do(board, words[0], words[1], words[2:])
        return DONE
    if words[0] == "spoilt":
        return _pieces_text([word_text(word) for word in board.spoilt_by(words[1], _edit_of(words[2:]))])
    if words[0] == "mended":
        return _pieces_text([word_text(word) for word in board.mended_by(words[1], _edit_of(words[2:]))])
    return _told_of(board, words[0], words[1])


def _do(board, word, name, rest):
    """The deed with this word is done; rest are the words behind the name."""
    if word == "put":
        board.put(name, row_from(" ".join(rest)))
    elif word == "drop":
        board.drop(name)
    elif word == "rename":
        board.rename(name, rest[0])
    elif word == "edit":
        board.edit(name, _edit_of(rest))
    elif word == "lose":
        board.lose(name, int(rest[0]))
    elif word == "keep":
        board.keep(name, word_from(" ".join(rest)))
    else:
        board.free(name, word_from(" ".join(rest)))


def _told_of(board, word, name):
    """The reply to this question about the ROW with this name."""
    row = board[name]
    if word == "row":
        return row_text(row)
    if word == "play":
        return numbers_text(board.play(name))
    if word == "spot":
        return str(board.spot(name))
    if word == "contents":
        return _terms_text(row[0], board.contents(name))
    if word == "end":
        return _terms_text(row[1], board.end(name))
    if word == "holds":
        return "yes" if keeps(row) else "no"
    if word == "hazards":
        return _pieces_text([" ".join([str(number), cell, str(later)]) for number, cell, later in hazards(row)])
    if word == "marking":
        marks = fewest_marking(row)
        return "none" if marks is None else numbers_text(marks)
    return _pieces_text([word_text(own) for own in _words_of(board, word, name)])


def _terms_text(cells, terms):
    return BETWEEN.join([cell + " = " + term_text(term) for cell, term in zip(cells, terms)])


def _pieces_text(pieces):
    return BETWEEN.join(pieces) if pieces else NOTHING


def _words_of(board, word, name):
    """The WORDS for which this question asks."""
    if word == "words":
        return board.words(name)
    if word == "standing":
        return board.standing(name)
    return board.lost(name) if word == "lost" else board.sure(name)
