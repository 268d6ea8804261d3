"""Losses of power: what is begun, what comes of it, whether a ROW keeps, and papers for and against it."""

from atanywrite.checks import need_cell, need_number
from atanywrite.errors import NoNumber
from atanywrite.plays import end_numbers, held_behind_play, left_by, marks_below, steps_of_play
from atanywrite.pools import Pool, held_at_first
from atanywrite.rows import spots, stretches
from atanywrite.shapes import as_set, frozen, is_number, is_same
from atanywrite.spans import far_end, hazards_in
from atanywrite.terms import counting

MOST_BEGUN = 20
MOST_LOSSES = 3
GREATEST = 10 ** 9


def goes_on_from(row, number):
    """The spot from which the device goes on if power is lost at this move."""
    need_number(number, 0, len(row[2]) - 1)
    return marks_below(row)[number]


def is_play(row, thing):
    """Whether thing is a PLAY, however long."""
    if not isinstance(thing, tuple) or not all([is_number(number) for number in thing]):
        return False
    below = marks_below(row)
    spot = 0
    for number in thing:
        if not spot <= number < len(below):
            return False
        spot = below[number]
    return True


def begun(row, play):
    """The tuple of the moves begun in the PLAY."""
    return tuple([number for number, loss in steps_of_play(row, play)])


def play_from(row, numbers):
    """The PLAY in which just these moves are begun; None if there is none."""
    play = []
    follows = 0
    for number in numbers:
        if number != follows:
            # Only a loss at the move ahead leads anywhere but to the next one.
            if follows == 0 or number != goes_on_from(row, follows - 1):
                return None
            play.append(follows - 1)
        if number == len(row[2]):
            return None
        follows = number + 1
    return tuple(play) if follows == len(row[2]) else None


def most_begun(row, number):
    """The most moves that are begun in a PLAY of just so many losses; None if there is none."""
    need_number(number, 0, GREATEST)
    lengths = [last - first for first, last in stretches(row)]
    if lengths == [] and number > 0:
        return None
    return len(row[2]) + number * max(lengths, default=0)


def contents_along(row, play):
    """The list of the CONTENTS at the beginning and behind each move begun."""
    cells, _, moves, _ = frozen(row)
    pool = Pool()
    held = held_at_first(pool, cells)
    found = [pool.terms([held[cell] for cell in cells])]
    for number, loss in steps_of_play(row, play):
        held[moves[number][2]] = left_by(pool, held, moves[number], loss)
        found.append(pool.terms([held[cell] for cell in cells]))
    return found


def end_of(row, play):
    """The END of the PLAY."""
    pool = Pool()
    return pool.terms(end_numbers(pool, row, play))


def ends_by(row, number):
    """The set of the ENDS of all PLAYS of at most so many losses that begin at most 20 moves."""
    need_number(number, 0, 2)
    pool = Pool()
    found = {}
    for play in _plays(row, number):
        found[tuple(end_numbers(pool, row, play))] = True
    return tuple(sorted([pool.terms(numbers) for numbers in list(found)]))


def _plays(row, losses):
    """All PLAYS of at most so many losses that begin at most 20 moves, those of fewer losses first."""
    many = len(row[2])
    below = marks_below(row)
    found = [()] if many <= MOST_BEGUN else []
    level = [((), 0, many)]
    for _ in range(losses):
        longer = []
        for play, spot, so_far in level:
            for number in range(spot, many):
                # What lies from the mark to the loss is begun once more.
                together = so_far + number - below[number] + 1
                if together <= MOST_BEGUN:
                    longer.append(((*play, number), below[number], together))
        found.extend([play for play, spot, so_far in longer])
        level = longer
    return found


def hazards(row):
    """The set of the HAZARDS of the ROW."""
    counts = counting(row)
    found = []
    for first, last in stretches(row):
        found.extend(hazards_in(row[2], counts, first, last))
    return as_set(found)


def is_hazard(row, thing):
    """Whether thing is a HAZARD of the ROW."""
    return any([is_same(thing, hazard) for hazard in hazards(row)])


def keeps(row):
    """Whether all PLAYS of the ROW have the END of ()."""
    counts = {number: True for number in counting(row)}
    return all([far_end(row[2], counts, first, last) == last for first, last in stretches(row)])


def losses_against(row):
    """The set of the moves at which one loss alone leaves another END than ()."""
    pool = Pool()
    found = [number for number in range(len(row[2])) if any(_unlike_wanted(pool, row, number))]
    return tuple(found)


def _unlike_wanted(pool, row, number):
    """For each wanted cell whether one loss alone, at this move, makes it differ at the end."""
    differ = _unlike_cells(pool, row, (number,))
    return [cell in differ for cell in row[1]]


def _unlike_cells(pool, row, play):
    """The cells that hold another TERM at the end of the PLAY than in ()."""
    right = held_behind_play(pool, row, ())
    held = held_behind_play(pool, row, play)
    return [cell for cell in row[0] if held[cell] != right[cell]]


def read_first(row, number):
    """The set of the cells read first in the STRETCH with this number."""
    return as_set([cell for cell in row[0] if who_reads_first(row, number, cell) != ()])


def written_in(row, number):
    """The set of the cells written in the STRETCH with this number."""
    first, last = _stretch_with(row, number)
    return as_set([move[2] for move in row[2][first:last]])


def who_reads_first(row, number, cell):
    """The set of the moves that count, by which the cell is read first in the STRETCH with this number."""
    need_cell(row[0], cell)
    first, last = _stretch_with(row, number)
    counts = counting(row)
    found = []
    for reader in range(first, last):
        if reader in counts and cell in row[2][reader][1]:
            found.append(reader)
        if row[2][reader][2] == cell:
            break
    return tuple(found)


def _stretch_with(row, number):
    found = stretches(row)
    need_number(number, 0, len(found) - 1)
    return found[number]


def keep_paper(row):
    """The PAPER for the ROW; None if it does not keep."""
    if not keeps(row):
        return None
    paper = []
    for at, stretch in enumerate(stretches(row)):
        paper.append((stretch, read_first(row, at), written_in(row, at)))
    return tuple(paper)


def is_keep_paper(row, thing):
    """Whether thing is a PAPER for the ROW."""
    paper = keep_paper(row)
    return paper is not None and is_same(thing, paper)


def harm_paper(row):
    """A PAPER against the ROW; None if it keeps."""
    for hazard in hazards(row):
        for cell in _harmed_by(row, hazard):
            return (hazard, cell)
    return None


def _harmed_by(row, hazard):
    """The wanted cells in which this HAZARD shows."""
    differ = _unlike_cells(Pool(), row, (hazard[2],))
    return [cell for cell in row[1] if cell in differ]


def is_harm_paper(row, thing):
    """Whether thing is a PAPER against the ROW."""
    if not isinstance(thing, tuple) or len(thing) != 2:
        return False
    hazard, cell = thing
    return is_hazard(row, hazard) and isinstance(cell, str) and cell in _harmed_by(row, hazard)


def can_differ(row, spot):
    """The set of the cells that can differ at this mark."""
    if spot not in spots(row):
        raise NoNumber(spot)
    cells, _, moves, marks = frozen(row)
    ahead = (moves[:spot], tuple([mark for mark in marks if mark < spot]))
    return tuple([cell for cell in cells if not keeps((cells, (cell,), *ahead))])


def loss_for(row, cell):
    """The least move at which one loss alone makes this cell differ at the end; None if there is none."""
    need_cell(row[0], cell)
    pool = Pool()
    for number in range(len(row[2])):
        if cell in _unlike_cells(pool, row, (number,)):
            return number
    return None


def fewest_losses(row, some):
    """Of the PLAYS at whose end each of these cells holds another TERM than in (), the fewest losses."""
    for cell in some:
        need_cell(row[0], cell)
    if len(some) == 0:
        return 0
    pool = Pool()
    for play in _plays(row, MOST_LOSSES):
        differ = _unlike_cells(pool, row, play)
        if all([cell in differ for cell in some]):
            return len(play)
    return None
