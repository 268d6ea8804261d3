"""What the document says of EDITS, WORDS and Boards, worked out as its words go, without any of the package."""

from tests import brute

LETTERS = "abcdefghijklmnopqrstuvwxyz"


def is_name(word):
    return 1 <= len(word) <= 8 and all(sign in LETTERS for sign in word)


def is_row(row):
    cells, wanted, moves, _ = row
    if not wanted or not all(is_name(cell) for cell in cells) or not set(wanted) <= set(cells):
        return False
    for name, reads, cell in moves:
        if name in ("old", "spoilt") or not is_name(name) or not {*reads, cell} <= set(cells):
            return False
        if len(set(reads)) < len(reads) or name == "copy" and len(reads) != 1:
            return False
    return True


def edited(row, edit):
    """The ROW behind the EDIT; a pair of a name of an error and what it tells, if it is refused."""
    cells, wanted, moves, marks = row
    word, first = edit[:2]
    last = len(moves)
    if word in ("insert", "remove", "replace", "swap"):
        top = {"insert": last, "swap": last - 2}.get(word, last - 1)
        if not 0 <= first <= top:
            return ("NoNumber", first)
    if word == "mark" and (not 0 < first < last or first in marks) or word == "clear" and first not in marks:
        return ("NoNumber", first)
    if word == "cell" and first in cells:
        return ("Known", first)
    if word in ("drop", "want", "leave", "name") and first not in cells:
        return ("NoCell", first)
    if word == "name" and edit[2] in cells:
        return ("Known", edit[2])
    told = CHANGES[word](row, *edit[1:])
    return told if is_row(told) and told != row else ("Unfit",)


def insert(row, spot, move):
    cells, wanted, moves, marks = row
    moved = tuple(mark + 1 if mark > spot else mark for mark in marks)
    # At the end there is no spot behind: what was the end is no mark.
    return (cells, wanted, moves[:spot] + (move,) + moves[spot:], moved)


def remove(row, number):
    cells, wanted, moves, marks = row
    moved = {mark - 1 if mark > number else mark for mark in marks}
    return (cells, wanted, moves[:number] + moves[number + 1:], tuple(sorted(moved & set(range(1, len(moves) - 1)))))


def replace(row, number, move):
    return row[:2] + (row[2][:number] + (move,) + row[2][number + 1:], row[3])


def swap(row, number):
    one, two = row[2][number:number + 2]
    return row[:2] + (row[2][:number] + (two, one) + row[2][number + 2:], row[3])


def mark(row, spot):
    return row[:3] + (tuple(sorted([*row[3], spot])),)


def clear(row, spot):
    return row[:3] + (tuple(own for own in row[3] if own != spot),)


def cell(row, new):
    return (tuple(sorted([*row[0], new])),) + row[1:]


def drop(row, gone):
    return tuple(tuple(own for own in cells if own != gone) for cells in row[:2]) + row[2:]


def want(row, more):
    return (row[0], tuple(sorted({*row[1], more}))) + row[2:]


def leave(row, gone):
    return (row[0], tuple(own for own in row[1] if own != gone)) + row[2:]


def name(row, old, new):
    def called(own):
        return new if own == old else own

    moves = tuple((function, tuple(called(read) for read in reads), called(to)) for function, reads, to in row[2])
    return (tuple(sorted(map(called, row[0]))), tuple(sorted(map(called, row[1]))), moves, row[3])


CHANGES = {
    "insert": insert, "remove": remove, "replace": replace, "swap": swap, "mark": mark, "clear": clear, "cell": cell,
    "drop": drop, "want": want, "leave": leave, "name": name,
}


def edits_of(row, moves, cells):
    """EDITS with numbers from below to beyond what there is, with these MOVES and these cells."""
    numbers = range(-1, len(row[2]) + 2)
    found = [(word, number) for word in ("remove", "swap", "mark", "clear") for number in numbers]
    found += [(word, number, move) for word in ("insert", "replace") for number in numbers for move in moves]
    found += [(word, cell) for word in ("cell", "drop", "want", "leave") for cell in cells]
    return found + [("name", one, other) for one in cells for other in cells]


def is_refused(told):
    return isinstance(told[0], str)


def is_word(row, word):
    if word[0] == "cell":
        return word[1] in row[0]
    return word[0] != "dead" or word[1] < len(row[2])


def stands(row, word):
    """Whether this is a WORD of the ROW, and so."""
    if not is_word(row, word):
        return False
    if word[0] == "keeps":
        return brute.keeps(row)
    if word[0] == "cell":
        return brute.keeps((row[0], (word[1],)) + row[2:])
    if word[0] == "dead":
        return not brute.whys(row, word[1])
    return any(len(marks) <= word[1] for marks in brute.markings(row))


def goes_on(row, play):
    return brute.mark_below(row, play[-1]) if play else 0


def is_sure(row, play, word):
    """As stands, but keeps and cell by all PLAYS that begin with this one, with up to two losses more."""
    if not is_word(row, word) or word[0] in ("dead", "marked"):
        return stands(row, word)
    kept = row if word[0] == "keeps" else (row[0], (word[1],)) + row[2:]
    right = brute.end(kept, ())
    plays = [play + more for more in short_tails(row) if brute.is_play(row, play + more)]
    return all(brute.end(kept, own) == right for own in plays)


def short_tails(row):
    numbers = range(len(row[2]))
    return [()] + [(one,) for one in numbers] + [(one, two) for one in numbers for two in numbers]
