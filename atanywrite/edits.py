"""ROWS changed by EDITS, what leads back, and what such a change leaves as it was."""

from atanywrite.checks import need_cell, need_new, need_number
from atanywrite.errors import RowError, Unfit
from atanywrite.losses import keeps
from atanywrite.plays import end_numbers
from atanywrite.pools import Pool
from atanywrite.rows import is_move, renamed, stretch_of, swapped, with_cell, with_mark, with_move, with_wanted
from atanywrite.rows import without_cell, without_mark, without_move
from atanywrite.shapes import COPY, as_set, frozen, is_name, is_number
from atanywrite.wordings import A_CELL, A_NUMBER, edit_parts


def edited(row, edit):
    """The ROW behind this EDIT."""
    told = frozen(row)
    behind = _behind(told, frozen(edit))
    if behind == told:
        raise Unfit()
    return behind


def _behind(row, edit):
    """The ROW behind this EDIT, maybe the same."""
    word, first = edit[:2]
    if word == "insert":
        return with_move(row, first, edit[2])
    if word == "remove":
        return without_move(row, first)
    if word == "replace":
        return _with_other_move(row, first, edit[2])
    if word == "swap":
        return swapped(row, first)
    if word == "mark":
        return with_mark(row, first)
    if word == "clear":
        return without_mark(row, first)
    if word == "name":
        return renamed(row, first, edit[2])
    return _with_other_cells(row, word, first)


def _with_other_move(row, number, move):
    cells, wanted, moves, marks = row
    need_number(number, 0, len(moves) - 1)
    if not is_move(row, move):
        raise Unfit()
    return (cells, wanted, (*moves[:number], move, *moves[number + 1:]), marks)


def _with_other_cells(row, word, cell):
    if word == "cell":
        return with_cell(row, cell)
    if word == "drop":
        return without_cell(row, cell)
    need_cell(row[0], cell)
    if word == "want":
        return with_wanted(row, as_set([cell, *row[1]]))
    return with_wanted(row, tuple([other for other in row[1] if other != cell]))


def _behind_or_none(row, edit):
    """The ROW behind this EDIT; None if it is refused."""
    try:
        return edited(row, edit)
    except RowError:
        return None


def can_edit(row, thing):
    """Whether thing is an EDIT that is not refused."""
    return _is_edit(row, thing) and _behind_or_none(row, thing) is not None


def _is_edit(row, thing):
    """Whether thing is an EDIT, of whatever numbers and names."""
    if not isinstance(thing, tuple) or thing == () or not isinstance(thing[0], str):
        return False
    parts = edit_parts(thing[0])
    if parts is None or len(thing) != 1 + len(parts):
        return False
    return all([_is_part(row, kind, part) for kind, part in zip(parts, thing[1:])])


def _is_part(row, kind, thing):
    if kind == A_NUMBER:
        return is_number(thing)
    return isinstance(thing, str) if kind == A_CELL else is_move(row, thing)


def undone_by(row, edit):
    """Of the EDITS that lead back the least; None if none does."""
    told = frozen(row)
    behind = edited(told, edit)
    for back in sorted(_edits_to(behind, told)):
        if _behind_or_none(behind, back) == told:
            return back
    return None


def _edits_to(row, target):
    """EDITS of the row among which are all that lead to the target."""
    cells, _, moves, _ = row
    goals, _, aims, _ = target
    found = [(word, spot) for word in ("clear", "mark", "remove", "swap") for spot in range(len(moves))]
    found.extend([(word, cell) for word in ("drop", "leave", "want") for cell in cells])
    found.extend([("cell", cell) for cell in goals])
    found.extend([("name", cell, new) for cell in cells for new in goals])
    # What is put in at a spot stands there behind it.
    return found + [(word, spot, move) for word in ("insert", "replace") for spot, move in enumerate(aims)]


def edits_commute(row, edit, later):
    """Whether both can be done one behind the other, either ahead, and lead to one ROW so."""
    told = _behind_both(row, edit, later)
    return told is not None and told == _behind_both(row, later, edit)


def _behind_both(row, edit, later):
    """The ROW behind both EDITS, one behind the other; None if one is refused."""
    between = _behind_or_none(row, edit)
    return None if between is None else _behind_or_none(between, later)


def is_idle(row, edit):
    """Whether the ROW behind the EDIT has the same END of () and keeps just if this one does."""
    behind = edited(row, edit)
    return _has_end_of(behind, row) and keeps(behind) == keeps(row)


def _has_end_of(row, other):
    """Whether both have the same END of (), whichever cells hold it."""
    pool = Pool()
    return end_numbers(pool, row, ()) == end_numbers(pool, other, ())


def mending_swaps(row):
    """The set of the moves whose swap gives a ROW with the same END of () that keeps."""
    found = []
    for number in range(len(row[2]) - 1):
        turned = swapped(row, number)
        if keeps(turned) and _has_end_of(turned, row):
            found.append(number)
    return tuple(found)


def guarded(row, number, cell, new):
    """The ROW in which what this move reads of the cell is copied ahead of its STRETCH, with a mark behind that."""
    cells, wanted, moves, marks = frozen(row)
    first, last = stretch_of(row, number)
    need_cell(cells, cell)
    need_new(cells, new)
    # In the move that writes the cell first it is still read ahead of that.
    reading = [at for at in range(first, last) if cell not in [move[2] for move in moves[first:at]]]
    if number not in reading or cell not in moves[number][1] or not is_name(new):
        raise Unfit()
    other = [_reading(move, cell, new) if at in reading else move for at, move in enumerate(moves)]
    moved = [mark if mark <= first else mark + 1 for mark in marks]
    more = (*other[:first], (COPY, (cell,), new), *other[first:])
    return (as_set([new, *cells]), wanted, more, as_set([first + 1, *moved]))


def _reading(move, cell, new):
    """The MOVE with new in the place of this cell among what it reads."""
    name, reads, to = move
    return (name, tuple([new if read == cell else read for read in reads]), to)
