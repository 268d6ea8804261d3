"""What cells hold in an undisturbed run of a ROW, which moves count for its end, and TERMS themselves."""

from atanywrite.checks import need_cell, need_number
from atanywrite.errors import Unfit
from atanywrite.pools import Pool, held_at_first, held_behind
from atanywrite.rows import swapped
from atanywrite.shapes import COPY, NO_FUNCTIONS, as_set, ascends, frozen, is_function, is_name, is_number


def contents_at(row, spot):
    """The CONTENTS at this spot, behind the moves ahead of it."""
    cells, _, moves, _ = frozen(row)
    need_number(spot, 0, len(moves))
    pool = Pool()
    held = held_behind(pool, held_at_first(pool, cells), moves[:spot])
    return pool.terms([held[cell] for cell in cells])


def content(row, cell, spot):
    """The TERM that this cell holds at this spot."""
    need_cell(row[0], cell)
    return contents_at(row, spot)[list(row[0]).index(cell)]


def end_terms(row):
    """The tuple of the TERMS of the wanted cells behind all moves."""
    pool = Pool()
    return pool.terms(_end_numbers(pool, frozen(row)))


def _end_numbers(pool, row):
    cells, wanted, moves, _ = row
    held = held_behind(pool, held_at_first(pool, cells), moves)
    return [held[cell] for cell in wanted]


def written_by(row, cell, spot):
    """The number of the last move ahead of the spot that writes the cell; None if none does."""
    need_cell(row[0], cell)
    need_number(spot, 0, len(row[2]))
    writes = [number for number, move in enumerate(row[2][:spot]) if move[2] == cell]
    return max(writes, default=None)


def next_write(row, cell, spot):
    """The number of the first move from the spot on that writes the cell; None if none does."""
    need_cell(row[0], cell)
    need_number(spot, 0, len(row[2]))
    writes = [number for number, move in enumerate(row[2]) if number >= spot and move[2] == cell]
    return min(writes, default=None)


def sources(row, number):
    """For each cell that the move reads the move that wrote it; None if none did."""
    need_number(number, 0, len(row[2]) - 1)
    return tuple([written_by(row, cell, number) for cell in row[2][number][1]])


def writes_for(row, number):
    """The set of the moves for which this one writes."""
    need_number(number, 0, len(row[2]) - 1)
    return tuple(_written_for(row)[number])


def _written_for(row):
    """For each move the ascending list of the moves for which it writes."""
    found = [[] for _ in row[2]]
    last = {}
    for number, (_, reads, cell) in enumerate(row[2]):
        for read in reads:
            if read in last:
                found[last[read]].append(number)
        last[cell] = number
    return found


def move_counts(row, number):
    """Whether the move counts."""
    need_number(number, 0, len(row[2]) - 1)
    return number in counting(row)


def counting(row):
    """The set of the moves that count."""
    return _needed_back(row)[0]


def dead_moves(row):
    """The set of the moves that do not count."""
    counts = {number: True for number in counting(row)}
    return tuple([number for number in range(len(row[2])) if number not in counts])


def old_needed(row):
    """The set of the cells whose old content is in the END."""
    return _needed_back(row)[1]


def _needed_back(row):
    """The pair of the moves that count and the cells of which the old content is needed."""
    needed = {cell: True for cell in row[1]}
    counts = []
    for number in reversed(range(len(row[2]))):
        _, reads, cell = row[2][number]
        if cell in needed:
            counts.append(number)
            del needed[cell]
            for read in reads:
                needed[read] = True
    return (tuple(counts[::-1]), as_set(list(needed)))


def why(row, number):
    """A WHY of the move; None if there is none."""
    need_number(number, 0, len(row[2]) - 1)
    counts = counting(row)
    if number not in counts:
        return None
    written_for = _written_for(row)
    path = [number]
    while not _is_held_at_end(row, path[-1]):
        path.append(min([reader for reader in written_for[path[-1]] if reader in counts]))
    return tuple(path)


def is_why(row, number, thing):
    """Whether thing is a WHY of the move."""
    need_number(number, 0, len(row[2]) - 1)
    if not isinstance(thing, tuple) or thing == () or not all([is_number(part) for part in thing]):
        return False
    if thing[0] != number or not ascends(thing) or thing[-1] >= len(row[2]):
        return False
    written_for = _written_for(row)
    if not all([later in written_for[part] for part, later in zip(thing, thing[1:])]):
        return False
    return _is_held_at_end(row, thing[-1])


def _is_held_at_end(row, number):
    """Whether what the move wrote is held at the end by its cell, a wanted one."""
    cell = row[2][number][2]
    return cell in row[1] and next_write(row, cell, number + 1) is None


def last_use(row, number):
    """The greatest of the moves that count for which it writes, or how many moves there are."""
    need_number(number, 0, len(row[2]) - 1)
    counts = counting(row)
    if number not in counts:
        return None
    if _is_held_at_end(row, number):
        return len(row[2])
    return max([reader for reader in writes_for(row, number) if reader in counts])


def old_lost(row, spot):
    """The set of the cells whose old content no cell holds at this spot."""
    cells, _, moves, _ = frozen(row)
    need_number(spot, 0, len(moves))
    pool = Pool()
    first = held_at_first(pool, cells)
    left = list(held_behind(pool, first, moves[:spot]).values())
    return tuple([cell for cell in cells if first[cell] not in left])


def alike_cells(row, cell, spot):
    """The set of the cells that hold the same as this one at this spot, itself too."""
    cells, _, moves, _ = frozen(row)
    need_cell(cells, cell)
    need_number(spot, 0, len(moves))
    pool = Pool()
    held = held_behind(pool, held_at_first(pool, cells), moves[:spot])
    return tuple([other for other in cells if held[other] == held[cell]])


def names_needed(row):
    """The set of the functions in the END."""
    names = [row[2][number][0] for number in counting(row)]
    return as_set([name for name in names if name != COPY])


def lean(row):
    """The ROW without the moves that do not count."""
    cells, wanted, moves, marks = frozen(row)
    counts = counting(row)
    moved = as_set([len([number for number in counts if number < mark]) for mark in marks])
    inner = tuple([mark for mark in moved if 0 < mark < len(counts)])
    return (cells, wanted, tuple([moves[number] for number in counts]), inner)


def ends_alike(row, other):
    """Whether both have the same wanted cells and the same END."""
    one = frozen(row)
    two = frozen(other)
    pool = Pool()
    return one[1] == two[1] and _end_numbers(pool, one) == _end_numbers(pool, two)


def free_swaps(row):
    """The numbers of the moves that may be swapped with the next one, the same CONTENTS coming behind both."""
    cells, _, moves, _ = frozen(row)
    return tuple(_free_swaps_of(cells, moves))


def _free_swaps_of(cells, moves):
    pool = Pool()
    held = held_at_first(pool, cells)
    found = []
    for number in range(len(moves) - 1):
        one, two = moves[number:number + 2]
        if held_behind(pool, held, (one, two)) == held_behind(pool, held, (two, one)):
            found.append(number)
        held = held_behind(pool, held, (one,))
    return found


def swap_free(row, number):
    """The ROW in which this move and the next one are swapped."""
    need_number(number, 0, len(row[2]) - 1)
    if number not in free_swaps(row):
        raise Unfit()
    return swapped(row, number)


def is_led_to(row, other):
    """Whether free swaps of neighbours lead from the moves of one ROW to those of the other."""
    cells, wanted, moves, marks = frozen(row)
    others, goals, target, places = frozen(other)
    if (cells, wanted, marks) != (others, goals, places) or sorted(moves) != sorted(target):
        return False
    seen = {moves: True}
    todo = [moves]
    while todo and target not in seen:
        one = todo.pop()
        for number in _free_swaps_of(cells, one):
            turned = (*one[:number], one[number + 1], one[number], *one[number + 2:])
            if turned not in seen:
                seen[turned] = True
                todo.append(turned)
    return target in seen


def is_term(thing):
    """Whether thing is a TERM of NAMEs."""
    todo = [thing]
    while todo:
        part = todo.pop()
        if not _is_headed_well(part):
            return False
        todo.extend(_parts(part))
    return True


def _is_headed_well(thing):
    """Whether thing is a TERM if all of its PARTS are."""
    if not isinstance(thing, tuple) or len(thing) != 2:
        return False
    kind, behind = thing
    if kind == "old":
        return is_name(behind)
    if kind == "spoilt":
        return is_number(behind) and behind >= 0
    return is_function(kind) and kind != COPY and isinstance(behind, tuple)


def _parts(term):
    return [] if term[0] in NO_FUNCTIONS else list(term[1])


def _head(term):
    """What two TERMS with the same PARTS have to be alike in to be the same."""
    kind, behind = term
    return (kind, behind if kind in NO_FUNCTIONS else len(behind))


def _leveled(one):
    """The pairs of all TERMS in this one, as often as they stand in it, and how deep each stands, itself at 1."""
    found = []
    todo = [(one, 1)]
    while todo:
        term, level = todo.pop()
        found.append((term, level))
        todo.extend([(part, level + 1) for part in _parts(term)])
    return found


def term_cells(one):
    """The set of the cells in the TERM."""
    return as_set([term[1] for term, level in _leveled(one) if term[0] == "old"])


def term_names(one):
    """The set of the functions in the TERM."""
    return as_set([term[0] for term, level in _leveled(one) if term[0] not in NO_FUNCTIONS])


def term_losses(one):
    """The set of the numbers of what is spoilt in the TERM."""
    return as_set([term[1] for term, level in _leveled(one) if term[0] == "spoilt"])


def term_size(one):
    """Of how many TERMS it is made, itself too."""
    return len(_leveled(one))


def term_depth(one):
    """How deep the TERM is, 1 if it has no PARTS."""
    return max([level for term, level in _leveled(one)])


def part_of(one, path):
    """The TERM to which this PATH leads."""
    term = one
    for place in path:
        parts = _parts(term)
        if not 0 <= place < len(parts):
            raise Unfit()
        term = parts[place]
    return frozen(term)


def first_unlike(one, two):
    """The least PATH to TERMS that are unlike in themselves; None if both are the same."""
    todo = [((), one, two)]
    while todo:
        path, mine, other = todo.pop()
        if _head(mine) != _head(other):
            return path
        pairs = list(enumerate(zip(_parts(mine), _parts(other))))
        # The last one put in is the next one out, so the last PARTS go in first.
        todo.extend([((*path, place), left, right) for place, (left, right) in pairs[::-1]])
    return None
