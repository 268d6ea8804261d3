"""PLAYS of a ROW: which moves are begun in them, and what the cells hold behind these."""

from atanywrite.pools import Pool, held_at_first, number_by
from atanywrite.rows import spots


def marks_below(row):
    """For each move the greatest marked spot that is not above it."""
    marked = spots(row)
    found = []
    for first, last in zip(marked, marked[1:]):
        found.extend([first] * (last - first))
    return found


def steps_of_play(row, play):
    """The moves begun in the PLAY, each with the place of the loss at it, None if it is done."""
    below = marks_below(row)
    found = []
    spot = 0
    for place, number in enumerate(play):
        found.extend([(done, None) for done in range(spot, number)])
        found.append((number, place))
        spot = below[number]
    found.extend([(done, None) for done in range(spot, len(row[2]))])
    return found


def spot_behind(row, play):
    """The spot from which the device goes on behind the last loss of the PLAY."""
    return marks_below(row)[play[-1]] if play else 0


def left_by(pool, held, move, loss):
    """The number of the TERM that the move's cell holds behind it; loss is None if it is done."""
    return number_by(pool, held, move) if loss is None else pool.spoilt(loss)


def held_behind_steps(pool, row, steps):
    """For each cell the number of the TERM that it holds behind these moves begun."""
    held = held_at_first(pool, row[0])
    for number, loss in steps:
        move = row[2][number]
        held[move[2]] = left_by(pool, held, move, loss)
    return held


def held_behind_play(pool, row, play):
    """For each cell the number of the TERM that it holds at the end of the PLAY."""
    return held_behind_steps(pool, row, steps_of_play(row, play))


def end_numbers(pool, row, play):
    """The numbers of the TERMS that the wanted cells hold at the end of the PLAY."""
    held = held_behind_play(pool, row, play)
    return [held[cell] for cell in row[1]]


def ends_otherwise(row, play):
    """Whether the PLAY has another END than ()."""
    pool = Pool()
    return end_numbers(pool, row, play) != end_numbers(pool, row, ())
