"""PLANS: ROWS that make new blocks from old ones in place, and keep."""

from atanywrite.arranging import cells_of
from atanywrite.checks import need_blocks
from atanywrite.errors import CanNot, Unfit
from atanywrite.losses import keeps
from atanywrite.making import Ground, arrange, make_next
from atanywrite.orders import best_order, held_at, least_spares, spares_for, term_of
from atanywrite.pools import Pool, held_at_first, number_by
from atanywrite.rows import all_marked, is_row
from atanywrite.shapes import COPY, as_set, frozen
from atanywrite.shortest import fewest_moves


def goal_of(change):
    """The tuple of the TERMS that the blocks ought to hold at the end."""
    return tuple([term_of(change, block) for block in change[0]])


def stays(change):
    """The set of the blocks whose recipes copy themselves."""
    return tuple([block for block in change[0] if term_of(change, block) == ("old", block)])


def made_blocks(change):
    """The set of the blocks whose recipes are no copies."""
    return tuple([block for block, recipe in zip(change[0], change[1]) if recipe[0] != COPY])


def minds(change, block):
    """The set of the blocks that this one minds."""
    need_blocks(change[0], [block])
    return _minded(change)[block]


def _minded(change):
    """For each block the set of those that it minds."""
    staying = stays(change)
    found = {}
    for block, (name, reads) in zip(change[0], change[1]):
        found[block] = () if name == COPY else as_set([read for read in reads if read not in staying])
    return found


def is_saved_enough(change, some):
    """Whether without these blocks none of which each minds the next one, the last one the first, are left."""
    return _is_without_rounds(_minded(change), some)


def _is_without_rounds(minded, some):
    left = [block for block in list(minded) if block not in some]
    many = len(left) + 1
    # What minds none that is left is in no such row: it goes, again and again, till the rows alone are left.
    while len(left) < many:
        many = len(left)
        left = [block for block in left if any([other in left for other in minded[block]])]
    return left == []


def least_saved(change):
    """Of the sets that are saved enough with the fewest blocks the least."""
    minded = _minded(change)
    level = [()]
    while True:
        for some in level:
            if _is_without_rounds(minded, some):
                return some
        level = [(*some, block) for some in level for block in change[0] if some == () or block > some[-1]]


def plan_faults(change, spares, row):
    """The set of the words for what the ROW lacks as a PLAN."""
    if frozen(row[0]) != cells_of(change, spares) or frozen(row[1]) != frozen(change[0]):
        return ("cells",)
    pool = Pool()
    written, end = _run(pool, frozen(row))
    olds = held_at_first(pool, change[0])
    goal = [number_by(pool, olds, (*recipe, block)) for block, recipe in zip(change[0], change[1])]
    right = [*goal, *list(olds.values())]
    faults = []
    if end != goal:
        faults.append("goal")
    if not keeps(row):
        faults.append("keeps")
    if not all([number in right for number in written]):
        faults.append("way")
    return tuple(faults)


def _run(pool, row):
    """The numbers of the TERMS that the MOVES write, undisturbed, and of those that the wanted cells hold then."""
    cells, wanted, moves, _ = row
    held = held_at_first(pool, cells)
    written = []
    for move in moves:
        written.append(number_by(pool, held, move))
        held[move[2]] = written[-1]
    return (written, [held[cell] for cell in wanted])


def is_plan(change, spares, thing):
    """Whether thing is a PLAN."""
    return is_row(thing) and plan_faults(change, spares, thing) == ()


def order_of_plan(change, spares, row):
    """The ORDER by which the PLAN goes: made blocks of one TERM together, the others behind all, all ascending."""
    first = _made_last(change, spares, row)
    made = made_blocks(change)
    blocks = [block for term in first for block in made if term_of(change, block) == term]
    return tuple(blocks + [block for block in change[0] if block not in made])


def _made_last(change, spares, row):
    """The TERMS of made blocks in the order in which the PLAN last writes them by their functions."""
    plan = frozen(row)
    if not is_plan(change, spares, plan):
        raise Unfit()
    pool = Pool()
    written = pool.terms(_run(pool, plan)[0])
    last = {term: at for at, (term, move) in enumerate(zip(written, plan[2])) if move[0] != COPY}
    return [written[at] for at in sorted(list(last.values()))]


def goes_by(change, spares, row, order):
    """Whether the ROW, a PLAN, goes by this ORDER."""
    made = made_blocks(change)
    terms = []
    for term in [term_of(change, block) for block in order if block in made]:
        if term not in terms:
            terms.append(term)
    return terms == _made_last(change, spares, row)


def plan_by(change, spares, order):
    """A PLAN by this ORDER."""
    if spares_for(change, order) > len(spares):
        raise CanNot()
    ground = Ground(frozen(change), cells_of(change, spares))
    for at, block in enumerate(order):
        term = term_of(change, block)
        make_next(ground, term, [other for other in held_at(change, order[:at], block) if other != term])
    arrange(ground)
    return _plan_of(change, spares, tuple(ground.moves))


def _plan_of(change, spares, moves):
    # With all marks each MOVE is a STRETCH of its own, and none reads what it writes.
    return all_marked((cells_of(change, spares), frozen(change[0]), moves, ()))


def can_do(change, spares):
    """Whether there is a PLAN."""
    return least_spares(change) <= len(spares)


def plan_for(change, spares):
    """A PLAN; None if there is none."""
    return plan_by(change, spares, best_order(change)) if can_do(change, spares) else None


def shortest_plan(change, spares):
    """A PLAN with the fewest MOVES; None if there is none."""
    if not can_do(change, spares):
        return None
    return _plan_of(change, spares, fewest_moves(frozen(change), cells_of(change, spares)))


def fewest_moves_of(change, spares):
    """How few MOVES a PLAN has; None if there is none."""
    plan = shortest_plan(change, spares)
    return None if plan is None else len(plan[2])


def is_shortest(change, spares, thing):
    """Whether thing is a PLAN with the fewest MOVES."""
    return is_plan(change, spares, thing) and len(thing[2]) == fewest_moves_of(change, spares)
