"""CLAIMS about ROWS, CHANGES and ROLLOUTS, and REASONS for and against them."""

from atanywrite.errors import BadText, Unfit
from atanywrite.losses import is_play, keeps, losses_against, read_first, written_in
from atanywrite.marks import bar, fewest_marking, heights, is_heights, is_marking
from atanywrite.orders import best_order, fence, is_fence, is_right, least_spares
from atanywrite.plays import ends_otherwise
from atanywrite.rollouts import begin_counts, is_mild, is_over, over
from atanywrite.rows import is_change, is_order, is_row, stretches
from atanywrite.shapes import as_set, frozen, is_number, is_set_of
from atanywrite.starts import are_starts
from atanywrite.terms import is_why, move_counts, why
from atanywrite.wordings import CELL, DEAD, KEEPS, MARKED, are_word_words, is_word_of

MADE = "made"
MILD = "mild"


def is_claim(thing):
    """Whether thing is a CLAIM."""
    if not isinstance(thing, tuple) or len(thing) < 2:
        return False
    if thing[0] == MADE:
        return len(thing) == 3 and is_change(thing[1]) and _is_from(thing[2], 1)
    if thing[0] == MILD:
        return len(thing) == 4 and are_starts(thing[1]) and _is_from(thing[2], 1) and _is_from(thing[3], 0)
    return is_row(thing[1]) and is_word_of(thing[1], (thing[0], *thing[2:]))


def _is_from(thing, low):
    """Whether thing is a number from low on."""
    return is_number(thing) and thing >= low


def _need_claim(claim):
    """The CLAIM with tuples in the place of lists."""
    told = frozen(claim)
    if not is_claim(told):
        raise Unfit()
    return told


def stands(claim):
    """Whether what the CLAIM says is so."""
    told = _need_claim(claim)
    kind = told[0]
    if kind == MADE:
        return least_spares(told[1]) <= told[2]
    if kind == MILD:
        return is_mild(told[1], told[2], told[3])
    if kind == MARKED:
        marks = fewest_marking(told[1])
        return marks is not None and len(marks) <= told[2]
    if kind == DEAD:
        return not move_counts(told[1], told[2])
    return keeps(_kept_row(told))


def _kept_row(claim):
    """The ROW of which the CLAIM says that it keeps."""
    if claim[0] == KEEPS:
        return claim[1]
    cells, _, moves, marks = claim[1]
    return (cells, (claim[2],), moves, marks)


def reason_for(claim):
    """A REASON for the CLAIM; None if there is none."""
    told = _need_claim(claim)
    if not stands(told):
        return None
    kind = told[0]
    if kind == MADE:
        return best_order(told[1])
    if kind == MILD:
        return begin_counts(told[1], told[2])
    if kind == MARKED:
        return fewest_marking(told[1])
    return _needed_along(told[1]) if kind == DEAD else _keep_sets(_kept_row(told))


def _needed_along(row):
    """For each spot the set of the cells of which the content there comes to the end."""
    _, wanted, moves, _ = row
    along = [wanted]
    for _, reads, cell in moves[::-1]:
        along.append(_needed_ahead(along[-1], reads, cell))
    return tuple(along[::-1])


def _needed_ahead(behind, reads, cell):
    """What is needed ahead of a MOVE that reads and writes these, where behind it these are."""
    others = [own for own in behind if own != cell]
    return as_set([*others, *reads]) if cell in behind else behind


def _keep_sets(row):
    """For each STRETCH the pair of the sets of the cells read first and of those written in it."""
    return tuple([(read_first(row, at), written_in(row, at)) for at in range(len(stretches(row)))])


def reason_against(claim):
    """A REASON against the CLAIM; None if there is none."""
    told = _need_claim(claim)
    if stands(told):
        return None
    kind = told[0]
    if kind == MADE:
        return fence(told[1], told[2])
    if kind == MILD:
        return over(told[1], told[2], told[3])
    if kind == MARKED:
        return _heights_above(told[1], told[2] + 1)
    return why(told[1], told[2]) if kind == DEAD else losses_against(_kept_row(told))[:1]


def _heights_above(row, number):
    """HEIGHTS of which the last one is greater than the number; there are some."""
    barred = bar(row)
    if barred is None:
        return heights(row)
    # No SPAN that holds leads out of the BAR: beyond it any height does.
    return tuple([0 if spot in barred else number + 1 for spot in range(len(row[2]) + 1)])


def is_reason_for(claim, thing):
    """Whether thing is a REASON for the CLAIM."""
    told = _need_claim(claim)
    kind = told[0]
    if kind == MADE:
        return is_order(told[1], thing) and is_right(told[1], thing, told[2])
    if kind == MILD:
        return _are_counts_to(begin_counts(told[1], told[2]), told[3], thing)
    if kind == MARKED:
        return is_marking(told[1], thing) and len(thing) <= told[2]
    return _is_needed_along(told[1], told[2], thing) if kind == DEAD else _are_keep_sets(_kept_row(told), thing)


def _are_counts_to(counts, most, thing):
    """Whether thing has for each of these pairs one of its moment and a number from its count to most."""
    if not isinstance(thing, tuple) or len(thing) != len(counts):
        return False
    for (moment, count), pair in zip(counts, thing):
        if not isinstance(pair, tuple) or len(pair) != 2 or not all([is_number(part) for part in pair]):
            return False
        if pair[0] != moment or not count <= pair[1] <= most:
            return False
    return True


def _is_needed_along(row, number, thing):
    """Whether thing is sets for all spots, with all that is needed there, but not what this move writes behind it."""
    cells, wanted, moves, _ = row
    if not isinstance(thing, tuple) or len(thing) != len(moves) + 1:
        return False
    if not all([is_set_of(cells, some) for some in thing]):
        return False
    if not _has_all(thing[-1], wanted) or moves[number][2] in thing[number + 1]:
        return False
    neighbours = list(zip(thing, thing[1:]))
    return all([_has_all(ahead, _needed_ahead(behind, reads, cell))
                for (ahead, behind), (_, reads, cell) in zip(neighbours, moves)])


def _has_all(some, cells):
    return all([cell in some for cell in cells])


def _are_keep_sets(row, thing):
    """Whether thing has for each STRETCH two such sets, maybe with more in them, but none in both."""
    needed = _keep_sets(row)
    if not isinstance(thing, tuple) or len(thing) != len(needed):
        return False
    return all([_are_apart(row[0], reads, writes, pair) for (reads, writes), pair in zip(needed, thing)])


def _are_apart(cells, reads, writes, thing):
    if not isinstance(thing, tuple) or len(thing) != 2 or not all([is_set_of(cells, some) for some in thing]):
        return False
    one, other = thing
    return _has_all(one, reads) and _has_all(other, writes) and not any([cell in other for cell in one])


def is_reason_against(claim, thing):
    """Whether thing is a REASON against the CLAIM."""
    told = _need_claim(claim)
    kind = told[0]
    if kind == MADE:
        return is_fence(told[1], told[2], thing)
    if kind == MILD:
        return is_over(told[1], told[2], told[3], thing)
    if kind == MARKED:
        return is_heights(told[1], thing) and thing[-1] > told[2] + 1
    if kind == DEAD:
        return is_why(told[1], told[2], thing)
    row = _kept_row(told)
    return is_play(row, thing) and ends_otherwise(row, thing)


def first_fallen(claims):
    """The number of the first CLAIM that does not stand, and a REASON against it; None if all stand."""
    told = [_need_claim(claim) for claim in claims]
    for number, claim in enumerate(told):
        if not stands(claim):
            return (number, reason_against(claim))
    return None


def claim_of(row, word):
    """The CLAIM that this WORD is of the ROW."""
    own = frozen(row)
    told = frozen(word)
    if not is_word_of(own, told):
        raise Unfit()
    return (told[0], own, *told[1:])


def word_text(word):
    """The parts of the WORD with blanks between."""
    return " ".join([str(part) for part in word])


def word_from(text):
    """The WORD with just this text."""
    words = text.split(" ")
    if not are_word_words(words):
        raise BadText(0)
    if words[0] in (KEEPS, CELL):
        return tuple(words)
    return (words[0], int(words[1]))
