"""PLANS: ROWS that make new blocks from old ones in place, and keep."""

from atanywrite.arranging import cells_of
from atanywrite.checks import need_blocks
from atanywrite.errors import CanNot, Unfit
from atanywrite.losses import keeps
from atanywrite.making import Ground, arrange, make_in_order
from atanywrite.pools import Pool, held_at_first, number_by
from atanywrite.rooms import Room, least_order, need_order, recipe_term
from atanywrite.rows import is_row
from atanywrite.shapes import COPY, as_set, frozen
from atanywrite.shortest import fewest_moves


def goal_of(change):
    """The tuple of the TERMS that the blocks ought to hold at the end."""
    return tuple([recipe_term(recipe) for recipe in change[1]])


def stays(change):
    """The set of the blocks whose recipes copy themselves."""
    return tuple([block for block, (name, reads) in zip(change[0], change[1]) if name == COPY and reads[0] == block])


def made_blocks(change):
    """The set of the blocks whose recipes are no copies."""
    return tuple([block for block, recipe in zip(change[0], change[1]) if recipe[0] != COPY])


def minds(change, block):
    """The set of the blocks that this one minds."""
    need_blocks(change[0], [block])
    return _minded(change)[block]


def _minded(change):
    """For each block the set of those that it minds."""
    staying = stays(change)
    found = {}
    for block, (name, reads) in zip(change[0], change[1]):
        found[block] = () if name == COPY else as_set([read for read in reads if read not in staying])
    return found


def is_saved_enough(change, some):
    """Whether without these blocks none of which each minds the next one, the last one the first, are left."""
    return _is_without_rounds(_minded(change), some)


def _is_without_rounds(minded, some):
    left = [block for block in list(minded) if block not in some]
    many = len(left) + 1
    # What minds none that is left is in no such row: it goes, again and again, till the rows alone are left.
    while len(left) < many:
        many = len(left)
        left = [block for block in left if any([other in left for other in minded[block]])]
    return left == []


def least_saved(change):
    """Of the sets that are saved enough with the fewest blocks the least."""
    minded = _minded(change)
    level = [()]
    while True:
        for some in level:
            if _is_without_rounds(minded, some):
                return some
        level = [(*some, block) for some in level for block in change[0] if some == () or block > some[-1]]


def plan_faults(change, spares, row):
    """The set of the words for what the ROW lacks as a PLAN."""
    return _faults(change, spares, frozen(row))[0]


def _faults(change, spares, row):
    """The faults, the numbers of the TERMS that the MOVES write, undisturbed, and of those of GOAL."""
    cells, wanted, moves, _ = row
    if cells != cells_of(change, spares) or wanted != tuple(change[0]):
        return (("cells",), [], [])
    pool = Pool()
    held = held_at_first(pool, cells)
    goal = [number_by(pool, held, (*recipe, block)) for block, recipe in zip(change[0], change[1])]
    olds = [held[block] for block in wanted]
    right = {number: True for number in goal + olds}
    written = []
    for move in moves:
        written.append(number_by(pool, held, move))
        held[move[2]] = written[-1]
    faults = []
    if [held[block] for block in wanted] != goal:
        faults.append("goal")
    if not keeps(row):
        faults.append("keeps")
    if not all([number in right for number in written]):
        faults.append("way")
    return (tuple(faults), written, goal)


def is_plan(change, spares, thing):
    """Whether thing is a PLAN."""
    return is_row(thing) and _faults(change, spares, thing)[0] == ()


def order_of_plan(change, spares, row):
    """The ORDER by which the PLAN goes: made blocks of one TERM together, the others behind all, all ascending."""
    last, goal = _made_last(change, spares, row)
    made = [(block, number) for block, (name, _), number in zip(change[0], change[1], goal) if name != COPY]
    others = [block for block, (name, _) in zip(change[0], change[1]) if name == COPY]
    return tuple([block for own in last for block, number in made if number == own] + others)


def _made_last(change, spares, row):
    """The numbers of the TERMS in the order in which the PLAN last makes them by functions, and those of the goal."""
    plan = frozen(row)
    if not is_row(plan):
        raise Unfit()
    faults, written, goal = _faults(change, spares, plan)
    if faults != ():
        raise Unfit()
    last = {number: at for at, (number, move) in enumerate(zip(written, plan[2])) if move[0] != COPY}
    return ([written[at] for at in sorted(list(last.values()))], goal)


def goes_by(change, spares, row, order):
    """Whether the ROW, a PLAN, goes by this ORDER."""
    last, goal = _made_last(change, spares, row)
    made = {block: number for block, (name, _), number in zip(change[0], change[1], goal) if name != COPY}
    numbers = []
    for block in order:
        if block in made and made[block] not in numbers:
            numbers.append(made[block])
    return numbers == last


def plan_by(change, spares, order):
    """A PLAN by this ORDER."""
    need_order(change, order)
    room = Room(change)
    if room.spares_of(order) > len(spares):
        raise CanNot()
    return _plan_along(room, change, spares, order)


def _plan_along(room, change, spares, order):
    """The PLAN by this ORDER, which is right with so many SPARES."""
    cells = cells_of(change, spares)
    ground = Ground(room, change, cells)
    make_in_order(ground, order)
    arrange(ground)
    return _plan_of(cells, room.blocks, tuple(ground.moves))


def _plan_of(cells, blocks, moves):
    # With all marks each MOVE is a STRETCH of its own, and none reads what it writes.
    return (cells, blocks, moves, tuple(range(1, len(moves))))


def can_do(change, spares):
    """Whether there is a PLAN."""
    return least_order(Room(change))[0] <= len(spares)


def plan_for(change, spares):
    """A PLAN; None if there is none."""
    room = Room(change)
    needed, order = least_order(room)
    return _plan_along(room, change, spares, order) if needed <= len(spares) else None


def shortest_plan(change, spares):
    """A PLAN with the fewest MOVES; None if there is none."""
    moves = _fewest(change, spares)
    return None if moves is None else _plan_of(cells_of(change, spares), tuple(change[0]), moves)


def _fewest(change, spares):
    """The MOVES of such a PLAN; None if there is none."""
    return fewest_moves(change, cells_of(change, spares)) if can_do(change, spares) else None


def fewest_moves_of(change, spares):
    """How few MOVES a PLAN has; None if there is none."""
    moves = _fewest(change, spares)
    return None if moves is None else len(moves)


def is_shortest(change, spares, thing):
    """Whether thing is a PLAN with the fewest MOVES."""
    return is_plan(change, spares, thing) and len(thing[2]) == fewest_moves_of(change, spares)
