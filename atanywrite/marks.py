"""Where marks stand so that a ROW keeps, with as few as can be, and numbers as papers for it."""

from atanywrite.checks import need_number
from atanywrite.errors import CanNot, Unfit
from atanywrite.shapes import as_set, frozen, is_number, is_number_set
from atanywrite.spans import far_ends_of
from atanywrite.terms import counting


def far_ends(row):
    """For each spot but the last one the greatest end of a SPAN from there that holds; itself if none does."""
    return far_ends_of(row[2], counting(row))


def span_holds(row, first, end):
    """Whether this SPAN would have no HAZARD as a STRETCH."""
    for spot in (first, end):
        need_number(spot, 0, len(row[2]))
    if first >= end:
        raise Unfit()
    return end <= far_ends(row)[first]


def wants(row):
    """The set of the WANTS."""
    moves = row[2]
    found = []
    for number in counting(row):
        for cell in moves[number][1]:
            writes = [other for other, move in enumerate(moves) if move[2] == cell]
            later = [other for other in writes if other >= number]
            if later:
                ahead = [other + 1 for other in writes if other < number]
                found.append((max([0, *ahead]), number, number + 1, later[0]))
    return as_set(found)


def are_met(row, marks):
    """Whether the marks meet all WANTS."""
    return unmet(row, marks) == ()


def unmet(row, marks):
    """The set of the WANTS that the marks do not meet."""
    for mark in marks:
        need_number(mark, 1, len(row[2]) - 1)
    return tuple([want for want in wants(row) if not _is_met(want, marks)])


def _is_met(want, marks):
    low, high, near, far = want
    if not any([low <= spot <= high for spot in (0, *marks)]):
        return True
    return any([near <= mark <= far for mark in marks])


def is_marking(row, thing):
    """Whether thing is a MARKING."""
    return is_number_set(thing, 1, len(row[2]) - 1) and _keeps_with(far_ends(row), thing)


def _keeps_with(far, marks):
    """Whether all SPANS between 0, the marks and the last spot hold."""
    spots = [0, *marks, len(far)]
    return all([end <= far[first] for first, end in zip(spots, spots[1:]) if first < end])


def all_markings(row):
    """The ascending list of the MARKINGS."""
    far = far_ends(row)
    last = len(far)
    behind = {last: [()]}
    for first in reversed(range(last)):
        found = []
        for end in range(first + 1, far[first] + 1):
            between = () if end == last else (end,)
            found.extend([between + marks for marks in behind[end]])
        behind[first] = found
    return sorted(behind[0])


def how_many_markings(row):
    """How many MARKINGS there are."""
    return _ways_from(far_ends(row))[0]


def _ways_from(far):
    """For each spot in how many ways SPANS that hold lead from it to the last one."""
    ways = [0] * len(far) + [1]
    for first in reversed(range(len(far))):
        ways[first] = sum(ways[first + 1:far[first] + 1])
    return ways


def _ways_to(far):
    """For each spot in how many ways SPANS that hold lead from 0 to it."""
    ways = [1] + [0] * len(far)
    for end in range(1, len(far) + 1):
        ways[end] = sum([ways[first] for first in range(end) if end <= far[first]])
    return ways


def fewest_marks(row):
    """How many marks a MARKING has at the least; None if there is none."""
    marks = fewest_marking(row)
    return None if marks is None else len(marks)


def fewest_marking(row):
    """Of the MARKINGS with the fewest marks the least; None if there is none."""
    return _cheapest_marks(far_ends(row), [1] * len(row[2]))


def _cheapest_marks(far, prices):
    """Of the MARKINGS that cost the least the least; None if there is none."""
    found = _cheapest(far, prices)
    return None if found is None else found[1]


def _cheapest(far, prices):
    """The least cost of marks between which SPANS hold, and of these the least; None if there are none."""
    last = len(far)
    best = {last: (0, ())}
    for first in reversed(range(last)):
        found = []
        for end in range(first + 1, far[first] + 1):
            if end == last:
                found.append(best[end])
            elif end in best:
                cost, marks = best[end]
                found.append((cost + prices[end - 1], (end, *marks)))
        if found:
            best[first] = min(found)
    return best.get(0)


def from_end(row):
    """The MARKING in which, from the end on, each STRETCH begins as early as it can; None if there is none."""
    far = far_ends(row)
    spots = [len(far)]
    while spots[-1] > 0:
        early = [first for first in range(spots[-1]) if spots[-1] <= far[first]]
        if early == []:
            return None
        spots.append(early[0])
    return tuple(spots[1:-1][::-1])


def heights(row):
    """HEIGHTS whose last number is one more than the fewest marks, 0 without moves; None if there is no MARKING."""
    far = far_ends(row)
    steps = _fewest_steps(far)
    if len(far) not in steps:
        return None
    # No SPAN that holds leads to what is not come to from anywhere but its like: any great height does.
    return tuple([steps.get(spot, len(far)) for spot in range(len(far) + 1)])


def _fewest_steps(far):
    """For each spot that is come to from 0 by SPANS that hold, by how few."""
    steps = {0: 0}
    for first in range(len(far)):
        if first in steps:
            for end in range(first + 1, far[first] + 1):
                steps[end] = min(steps.get(end, len(far)), steps[first] + 1)
    return steps


def is_heights(row, thing):
    """Whether thing is HEIGHTS."""
    far = far_ends(row)
    if not isinstance(thing, tuple) or len(thing) != len(far) + 1:
        return False
    if not all([is_number(height) and height >= 0 for height in thing]) or thing[0] != 0:
        return False
    return all([max(thing[first:end + 1]) <= thing[first] + 1 for first, end in enumerate(far)])


def bar(row):
    """A BAR; None if there is none."""
    far = far_ends(row)
    steps = _fewest_steps(far)
    return None if len(far) in steps else as_set(list(steps))


def is_bar(row, thing):
    """Whether thing is a BAR."""
    far = far_ends(row)
    if not is_number_set(thing, 0, len(far) - 1) or 0 not in thing:
        return False
    return all([end in thing for first in thing for end in range(first + 1, far[first] + 1)])


def in_all(row):
    """The set of the spots, but the first and the last one, that are in all MARKINGS."""
    ways = _ways_over(row)
    return tuple([spot for spot in range(1, len(ways) - 1) if ways[spot] == ways[0]])


def in_none(row):
    """The set of the spots, but the first and the last one, that are in no MARKING."""
    ways = _ways_over(row)
    return tuple([spot for spot in range(1, len(ways) - 1) if ways[spot] == 0])


def _ways_over(row):
    """For each spot how many MARKINGS have it, 0 and the last one being in all."""
    far = far_ends(row)
    ways = [one * two for one, two in zip(_ways_to(far), _ways_from(far))]
    if ways[0] == 0:
        raise CanNot()
    return ways


def cheapest_marking(row, prices):
    """The pair of the least cost of a MARKING and of those that cost it the least."""
    if len(prices) != max(0, len(row[2]) - 1):
        raise Unfit()
    found = _cheapest(far_ends(row), prices)
    if found is None:
        raise CanNot()
    return found


def idle_marks(row):
    """The set of the marks without each of which, that one alone, the ROW keeps."""
    marks = frozen(row[3])
    far = far_ends(row)
    return tuple([mark for mark in marks if _keeps_with(far, [other for other in marks if other != mark])])


def helping_marks(row):
    """The set of the spots with each of which as one mark more the ROW keeps."""
    marks = frozen(row[3])
    far = far_ends(row)
    return tuple([spot for spot in _free_spots(row) if _keeps_with(far, sorted([spot, *marks]))])


def spoiling_marks(row):
    """The set of the spots with each of which as one mark more the ROW keeps no longer."""
    if not _keeps_with(far_ends(row), row[3]):
        return ()
    helping = helping_marks(row)
    return tuple([spot for spot in _free_spots(row) if spot not in helping])


def _free_spots(row):
    """The spots that are no marks, but the first and the last one."""
    return [spot for spot in range(1, len(row[2])) if spot not in row[3]]


def least_more(row):
    """Of the MARKINGS with all its marks those with the fewest marks, of these the least; None if there is none."""
    stops = [*row[3], len(row[2])]
    # No SPAN may lead over a mark that is there already.
    ends = [min([end, *[stop for stop in stops if stop > first]]) for first, end in enumerate(far_ends(row))]
    return _cheapest_marks(ends, [1] * len(row[2]))
