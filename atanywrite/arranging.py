"""Where new blocks lie, and how they are copied to where they ought to be."""

from atanywrite.errors import CanNot
from atanywrite.shapes import as_set

# What a cell holds in a LYING where no block lies.
NOTHING = ""


def cells_of(change, spares):
    """The set of the blocks and spare cells."""
    return as_set([*change[0], *spares])


def is_lying(change, spares, thing):
    """Whether thing is a LYING."""
    if not isinstance(thing, tuple) or not all([isinstance(block, str) for block in thing]):
        return False
    if len(thing) != len(cells_of(change, spares)):
        return False
    return sorted([block for block in thing if block != NOTHING]) == list(change[0])


def _lies_in(change, spares, lying):
    """For each cell the block that lies there."""
    return {cell: block for cell, block in zip(cells_of(change, spares), lying)}


def rounds_in(change, spares, lying):
    """The ascending list of the ROUNDS."""
    lies = _lies_in(change, spares, lying)
    found = []
    for cell in change[0]:
        one = _round_from(lies, cell)
        if len(one) > 1 and one[0] == min(one):
            found.append(one)
    return found


def _round_from(lies, cell):
    """The cells from this one on to each of which the block belongs that lies in the one ahead; () if they end."""
    cells = [cell]
    while lies[cells[-1]] != cell:
        if lies[cells[-1]] in (NOTHING, *cells):
            return ()
        cells.append(lies[cells[-1]])
    return tuple(cells)


def _elsewhere(lies, blocks):
    """The blocks that do not lie in the cells of their names."""
    return [block for block in blocks if lies[block] != block]


def fewest_copies(change, spares, lying):
    """How few pairs a COPYING has that arranges."""
    lies = _lies_in(change, spares, lying)
    return len(_elsewhere(lies, change[0])) + len(rounds_in(change, spares, lying))


def copies_for(change, spares, lying):
    """A COPYING with the fewest pairs that arranges."""
    lies = _lies_in(change, spares, lying)
    pairs = []
    left = _elsewhere(lies, change[0])
    while left:
        one, other = _next_copy(lies, left)
        pairs.append((one, other))
        lies[other] = lies[one]
        lies[one] = NOTHING
        left = _elsewhere(lies, change[0])
    return tuple(pairs)


def _next_copy(lies, left):
    """The pair that puts a block where it belongs; if none can be, one that breaks a ROUND."""
    free = [cell for cell in list(lies) if lies[cell] == NOTHING]
    for block in left:
        if block in free:
            return (_where(lies, block), block)
    return (left[0], free[0])


def _where(lies, block):
    return [cell for cell in list(lies) if lies[cell] == block][0]


def is_arranging(change, spares, lying, thing):
    """Whether thing is a COPYING that arranges."""
    if not isinstance(thing, tuple) or not all([_is_pair_of_names(pair) for pair in thing]):
        return False
    behind = _lies_behind(change, spares, lying, thing)
    return behind is not None and _elsewhere(behind, change[0]) == []


def _is_pair_of_names(thing):
    if not isinstance(thing, tuple) or len(thing) != 2:
        return False
    return all([isinstance(cell, str) for cell in thing])


def _lies_behind(change, spares, lying, copying):
    """For each cell the block that lies there behind these pairs; None if they are no COPYING."""
    lies = _lies_in(change, spares, lying)
    for one, other in copying:
        if one not in lies or other not in lies or lies[one] == NOTHING or lies[other] != NOTHING:
            return None
        lies[other] = lies[one]
        lies[one] = NOTHING
    return lies


def lying_after(change, spares, lying, copying):
    """The LYING behind these pairs of cells."""
    lies = _lies_behind(change, spares, lying, copying)
    if lies is None:
        raise CanNot()
    return tuple([lies[cell] for cell in cells_of(change, spares)])
