"""ROWS: what they are, what stands in them, and others made from them."""

from atanywrite.checks import need_cell, need_new, need_number
from atanywrite.errors import NoNumber, Unfit
from atanywrite.shapes import as_set, frozen, is_call, is_name_set, is_number_set


def is_row(thing):
    """Whether thing is a ROW."""
    if not isinstance(thing, tuple) or len(thing) != 4:
        return False
    cells, wanted, moves, marks = thing
    if not is_name_set(cells) or not is_name_set(wanted) or not isinstance(moves, tuple):
        return False
    known = {cell: True for cell in cells}
    if not all([cell in known for cell in wanted]):
        return False
    if not all([_is_move_of(known, move) for move in moves]):
        return False
    return is_number_set(marks, 1, len(moves) - 1)


def _is_move_of(known, thing):
    if not isinstance(thing, tuple) or len(thing) != 3:
        return False
    name, reads, cell = thing
    return is_call(name, reads, known) and isinstance(cell, str) and cell in known


def is_move(row, thing):
    """Whether thing is a MOVE of the cells of this ROW."""
    return _is_move_of({cell: True for cell in row[0]}, thing)


def is_change(thing):
    """Whether thing is a CHANGE."""
    if not isinstance(thing, tuple) or len(thing) != 2:
        return False
    blocks, recipes = thing
    if not is_name_set(blocks) or not isinstance(recipes, tuple) or len(recipes) != len(blocks):
        return False
    known = {block: True for block in blocks}
    return all([_is_recipe_of(known, recipe) for recipe in recipes])


def _is_recipe_of(known, thing):
    if not isinstance(thing, tuple) or len(thing) != 2:
        return False
    name, reads = thing
    return is_call(name, reads, known)


def is_order(change, thing):
    """Whether thing is an ORDER of this CHANGE."""
    if not isinstance(thing, tuple) or not all([isinstance(block, str) for block in thing]):
        return False
    return sorted(thing) == list(change[0])


def spots(row):
    """The set of the marked spots."""
    return as_set([0, *row[3], len(row[2])])


def stretches(row):
    """The ascending tuple of the STRETCHES."""
    marked = spots(row)
    return tuple(zip(marked, marked[1:]))


def stretch_of(row, number):
    """The STRETCH that has the move with this number."""
    for first, last in stretches(row):
        if first <= number < last:
            return (first, last)
    raise NoNumber(number)


def is_marked(row, number):
    """Whether this is a marked spot."""
    return number in spots(row)


def readers(row, cell):
    """The set of the numbers of the moves that read this cell."""
    need_cell(row[0], cell)
    return tuple([number for number, move in enumerate(row[2]) if cell in move[1]])


def writers(row, cell):
    """The set of the numbers of the moves that write this cell."""
    need_cell(row[0], cell)
    return tuple([number for number, move in enumerate(row[2]) if move[2] == cell])


def read_cells(row):
    """The set of the cells that some move reads."""
    return as_set([cell for move in row[2] for cell in move[1]])


def written_cells(row):
    """The set of the cells that some move writes."""
    return as_set([move[2] for move in row[2]])


def functions(row):
    """The set of the NAMEs of the functions, copy among them."""
    return as_set([move[0] for move in row[2]])


def with_move(row, number, move):
    """The ROW with this move put in, so that it has this number."""
    cells, wanted, moves, marks = frozen(row)
    need_number(number, 0, len(moves))
    more = (*moves[:number], frozen(move), *moves[number:])
    moved = tuple([mark + 1 if mark > number else mark for mark in marks])
    return _fit((cells, wanted, more, moved))


def without_move(row, number):
    """The ROW without the move with this number."""
    cells, wanted, moves, marks = frozen(row)
    need_number(number, 0, len(moves) - 1)
    left = moves[:number] + moves[number + 1:]
    moved = as_set([mark - 1 if mark > number else mark for mark in marks])
    return (cells, wanted, left, tuple([mark for mark in moved if 0 < mark < len(left)]))


def swapped(row, number):
    """The ROW with this move and the next one the other way about."""
    cells, wanted, moves, marks = frozen(row)
    need_number(number, 0, len(moves) - 2)
    turned = (*moves[:number], moves[number + 1], moves[number], *moves[number + 2:])
    return (cells, wanted, turned, marks)


def with_mark(row, number):
    """The ROW with a mark at this spot."""
    cells, wanted, moves, marks = frozen(row)
    need_number(number, 1, len(moves) - 1)
    if number in marks:
        raise NoNumber(number)
    return (cells, wanted, moves, as_set([number, *marks]))


def without_mark(row, number):
    """The ROW without the mark at this spot."""
    cells, wanted, moves, marks = frozen(row)
    if number not in marks:
        raise NoNumber(number)
    return (cells, wanted, moves, tuple([mark for mark in marks if mark != number]))


def all_marked(row):
    """The ROW with all marks that there can be."""
    cells, wanted, moves, _ = frozen(row)
    return (cells, wanted, moves, tuple(range(1, len(moves))))


def unmarked(row):
    """The ROW without marks."""
    cells, wanted, moves, _ = frozen(row)
    return (cells, wanted, moves, ())


def with_cell(row, cell):
    """The ROW with one more cell, not wanted."""
    cells, wanted, moves, marks = frozen(row)
    need_new(cells, cell)
    return _fit((as_set([cell, *cells]), wanted, moves, marks))


def without_cell(row, cell):
    """The ROW without this cell."""
    cells, wanted, moves, marks = frozen(row)
    need_cell(cells, cell)
    return _fit((_without(cells, cell), _without(wanted, cell), moves, marks))


def with_wanted(row, cells):
    """The ROW of which these cells are wanted."""
    known, _, moves, marks = frozen(row)
    wanted = frozen(cells)
    for cell in wanted:
        need_cell(known, cell)
    return _fit((known, wanted, moves, marks))


def renamed(row, cell, new):
    """The ROW in which the cell is called new."""
    cells, wanted, moves, marks = frozen(row)
    need_cell(cells, cell)
    need_new(cells, new)
    names = {own: own for own in cells}
    names[cell] = new
    called = [(name, _named(names, reads), names[end]) for name, reads, end in moves]
    return _fit((as_set(_named(names, cells)), as_set(_named(names, wanted)), tuple(called), marks))


def joined(row, other):
    """The ROW of the moves of row, then those of other, with a mark between."""
    cells, _, moves, marks = frozen(row)
    others, wanted, later, behind = frozen(other)
    if not all([cell in cells for cell in others]):
        raise Unfit()
    many = len(moves)
    between = (many,) if moves and later else ()
    moved = tuple([mark + many for mark in behind])
    return (cells, wanted, moves + later, marks + between + moved)


def cut(row, number):
    """The pair of the ROWS of the moves ahead of this spot and from it on."""
    cells, wanted, moves, marks = frozen(row)
    need_number(number, 0, len(moves))
    ahead = tuple([mark for mark in marks if mark < number])
    behind = tuple([mark - number for mark in marks if mark > number])
    return ((cells, cells, moves[:number], ahead), (cells, wanted, moves[number:], behind))


def _named(names, cells):
    return tuple([names[cell] for cell in cells])


def _without(cells, cell):
    return tuple([own for own in cells if own != cell])


def _fit(row):
    if not is_row(row):
        raise Unfit()
    return row
