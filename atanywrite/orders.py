"""Orders in which the blocks of a CHANGE are made, so that what is still needed has room."""

from atanywrite.checks import need_blocks, need_new, need_number, need_spares
from atanywrite.errors import Unfit
from atanywrite.rooms import Room, can_come, order_with, recipe_term, steps_of, ways_on
from atanywrite.rows import is_change, is_order
from atanywrite.shapes import as_set, ascends, frozen, is_set_of


def reads_of(change, block):
    """The set of the old blocks that the block's recipe reads."""
    need_blocks(change[0], [block])
    return as_set(_recipe_of(change, block)[1])


def _recipe_of(change, block):
    return frozen(change[1])[list(change[0]).index(block)]


def readers_of(change, block):
    """The set of the blocks whose recipes read this old one."""
    need_blocks(change[0], [block])
    return tuple([other for other in change[0] if block in reads_of(change, other)])


def term_of(change, block):
    """The TERM that the block's recipe makes."""
    need_blocks(change[0], [block])
    return recipe_term(_recipe_of(change, block))


def needed_behind(change, some):
    """The set of the old blocks that the recipes of all blocks but these read."""
    need_blocks(change[0], some)
    left = [block for block in change[0] if block not in some]
    return as_set([read for block in left for read in reads_of(change, block)])


def let_go(change, some, block):
    """The set of the old blocks that no recipe reads any more when this one is made behind these."""
    _need_next(change, some, block)
    needed = needed_behind(change, (*some, block))
    return tuple([old for old in needed_behind(change, some) if old not in needed])


def held_at(change, some, block):
    """The set of the TERMS that are held when this block is made behind these."""
    _need_next(change, some, block)
    olds = [("old", read) for read in needed_behind(change, some)]
    return as_set(olds + [term_of(change, made) for made in (*some, block)])


def _need_next(change, some, block):
    need_blocks(change[0], [*some, block])
    if block in some:
        raise Unfit()


def let_next(change, some, spares):
    """The set of the blocks that are let next behind these."""
    need_blocks(change[0], some)
    need_spares(spares)
    room = Room(frozen(change))
    return tuple([room.blocks[place] for place in room.let(room.number_of(some), spares)])


def can_go_on(change, some, spares):
    """Whether, these being made, all others can be made one behind another, each let next."""
    need_blocks(change[0], some)
    need_spares(spares)
    room = Room(frozen(change))
    return can_come(room, room.number_of(some), spares)


def _steps(room, spares):
    return steps_of(room, spares, [0] * room.many)


def needs_along(change, order):
    """How many TERMS are held at each of the blocks of the ORDER."""
    _need_order(change, order)
    return tuple(_needs(Room(frozen(change)), order))


def _need_order(change, order):
    need_blocks(change[0], order)
    if not is_order(change, frozen(order)):
        raise Unfit()


def _needs(room, order):
    found = []
    for at, block in enumerate(order):
        place = list(room.blocks).index(block)
        found.append(room.need(room.number_of(order[:at]), place))
    return found


def spares_for(change, order):
    """The least SPARES with which the ORDER is right."""
    return max(1, max(needs_along(change, order)) - len(change[0]))


def is_right(change, order, spares):
    """Whether the ORDER is right with so many SPARES."""
    needed = spares_for(change, order)
    need_spares(spares)
    return needed <= spares


def tight_places(change, order):
    """The set of the places in the ORDER at which as much is held as its least SPARES let."""
    most = len(change[0]) + spares_for(change, order)
    return tuple([at for at, many in enumerate(needs_along(change, order)) if many == most])


def least_spares(change):
    """The least SPARES with which some ORDER is right."""
    room = Room(frozen(change))
    spares = 1
    while not can_come(room, 0, spares):
        spares += 1
    return spares


def best_order(change):
    """The least of the ORDERS that are right with the least SPARES."""
    return nth_right(change, least_spares(change), 0)


def right_orders(change, spares):
    """The ascending list of the ORDERS that are right with so many SPARES."""
    need_spares(spares)
    room = Room(frozen(change))
    steps = _steps(room, spares)
    ways = ways_on(room, steps)
    # Blocks come in ascending order at each step, so the ORDERS do, too.
    found = [((), 0)]
    for _ in range(room.many):
        longer = []
        for order, made in found:
            for place in steps[made]:
                if ways[made | 1 << place] > 0:
                    longer.append(((*order, room.blocks[place]), made | 1 << place))
        found = longer
    return [order for order, made in found]


def how_many_right(change, spares):
    """How many ORDERS are right with so many SPARES."""
    need_spares(spares)
    room = Room(frozen(change))
    return ways_on(room, _steps(room, spares))[0]


def nth_right(change, spares, number):
    """The ORDER with this number among those that are right with so many SPARES."""
    need_spares(spares)
    room = Room(frozen(change))
    steps = _steps(room, spares)
    need_number(number, 0, ways_on(room, steps)[0] - 1)
    return order_with(room, steps, number)


def made_sets(change, spares):
    """The set of the sets that come."""
    need_spares(spares)
    room = Room(frozen(change))
    return _named(room, list(_steps(room, spares)))


def _named(room, sets):
    return as_set([room.names_in(some) for some in sets])


def stuck_sets(change, spares):
    """The set of the sets that come, but the whole, where no block is let next."""
    need_spares(spares)
    room = Room(frozen(change))
    steps = _steps(room, spares)
    return _named(room, [some for some in list(steps) if steps[some] == [] and some != room.whole()])


def fence(change, spares):
    """The FENCE that lies in all others; None if there is none."""
    found = made_sets(change, spares)
    return None if frozen(change[0]) in found else found


def is_fence(change, spares, thing):
    """Whether thing is a FENCE."""
    need_spares(spares)
    blocks = frozen(change[0])
    if not isinstance(thing, tuple) or not all([is_set_of(blocks, some) for some in thing]):
        return False
    if not ascends(thing) or () not in thing or blocks in thing:
        return False
    for some in thing:
        for block in let_next(change, some, spares):
            if as_set([*some, block]) not in thing:
                return False
    return True


def turned(change, order, number):
    """The ORDER with the block at this place and the next one turned about."""
    _need_order(change, order)
    need_number(number, 0, len(order) - 2)
    blocks = frozen(order)
    return (*blocks[:number], blocks[number + 1], blocks[number], *blocks[number + 2:])


def saving_turns(change, order):
    """The set of the numbers of turns that need fewer SPARES."""
    most = spares_for(change, order)
    return tuple([at for at in range(len(order) - 1) if spares_for(change, turned(change, order, at)) < most])


def goes_behind(change):
    """The set of the pairs of which the first block goes behind the second one."""
    blocks = change[0]
    return tuple([(one, other) for one in blocks for other in blocks if _goes_behind(change, one, other)])


def _goes_behind(change, one, other):
    mine = reads_of(change, one)
    others = reads_of(change, other)
    if mine == others:
        return one > other
    return all([block in others for block in mine])


def keeps_behind(change, order):
    """Whether each block stands in the ORDER behind all that it goes behind."""
    _need_order(change, order)
    at = {block: place for place, block in enumerate(order)}
    return all([at[one] > at[other] for one, other in goes_behind(change)])


def order_behind(change):
    """The least of the ORDERS that are right with the least SPARES, each block behind all that it goes behind."""
    room = Room(frozen(change))
    pairs = goes_behind(change)
    behind = [room.number_of([other for one, other in pairs if one == block]) for block in room.blocks]
    return order_with(room, steps_of(room, least_spares(change), behind), 0)


def beside(one, other):
    """The CHANGE with the blocks and recipes of both."""
    blocks, recipes = frozen(one)
    others, more = frozen(other)
    for block in blocks:
        need_new(others, block)
    pairs = sorted(list(zip(blocks, recipes)) + list(zip(others, more)))
    return (tuple([block for block, recipe in pairs]), tuple([recipe for block, recipe in pairs]))


def with_recipe(change, block, recipe):
    """The CHANGE with this recipe for the block."""
    need_blocks(change[0], [block])
    blocks, recipes = frozen(change)
    told = [frozen(recipe) if own == block else old for own, old in zip(blocks, recipes)]
    if not is_change((blocks, tuple(told))):
        raise Unfit()
    return (blocks, tuple(told))
