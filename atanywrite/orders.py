"""Orders in which the blocks of a CHANGE are made, so that what is still needed has room."""

from atanywrite.checks import need_blocks, need_new, need_number, need_spares
from atanywrite.errors import Unfit
from atanywrite.rooms import Room, can_come, first_order, least_order, need_order, order_with, recipe_term, steps_of
from atanywrite.rooms import ways_on
from atanywrite.rows import is_change
from atanywrite.shapes import as_set, ascends, frozen, is_set_of


def reads_of(change, block):
    """The set of the old blocks that the block's recipe reads."""
    need_blocks(change[0], [block])
    return as_set(_recipe_of(change, block)[1])


def _recipe_of(change, block):
    return change[1][list(change[0]).index(block)]


def readers_of(change, block):
    """The set of the blocks whose recipes read this old one."""
    need_blocks(change[0], [block])
    return tuple([other for other, (_, reads) in zip(change[0], change[1]) if block in reads])


def term_of(change, block):
    """The TERM that the block's recipe makes."""
    need_blocks(change[0], [block])
    return recipe_term(_recipe_of(change, block))


def needed_behind(change, some):
    """The set of the old blocks that the recipes of all blocks but these read."""
    need_blocks(change[0], some)
    return as_set(_reads_behind(change, some))


def _reads_behind(change, some):
    """What the recipes of all blocks but these read, alike ones as often as they do."""
    return [read for block, (_, reads) in zip(change[0], change[1]) if block not in some for read in reads]


def let_go(change, some, block):
    """The set of the old blocks that no recipe reads any more when this one is made behind these."""
    _need_next(change, some, block)
    needed = _reads_behind(change, (*some, block))
    return as_set([old for old in _reads_behind(change, some) if old not in needed])


def held_at(change, some, block):
    """The set of the TERMS that are held when this block is made behind these."""
    _need_next(change, some, block)
    olds = [("old", read) for read in _reads_behind(change, some)]
    made = [recipe_term(recipe) for own, recipe in zip(change[0], change[1]) if own == block or own in some]
    return as_set(olds + made)


def _need_next(change, some, block):
    need_blocks(change[0], [*some, block])
    if block in some:
        raise Unfit()


def let_next(change, some, spares):
    """The set of the blocks that are let next behind these."""
    need_blocks(change[0], some)
    need_spares(spares)
    room = Room(change)
    return tuple([room.blocks[place] for place in room.let(room.number_of(some), spares)])


def can_go_on(change, some, spares):
    """Whether, these being made, all others can be made one behind another, each let next."""
    need_blocks(change[0], some)
    need_spares(spares)
    room = Room(change)
    return can_come(room, room.number_of(some), spares)


def needs_along(change, order):
    """How many TERMS are held at each of the blocks of the ORDER."""
    need_order(change, order)
    return tuple(Room(change).needs(order))


def spares_for(change, order):
    """The least SPARES with which the ORDER is right."""
    need_order(change, order)
    return Room(change).spares_of(order)


def is_right(change, order, spares):
    """Whether the ORDER is right with so many SPARES."""
    needed = spares_for(change, order)
    need_spares(spares)
    return needed <= spares


def tight_places(change, order):
    """The set of the places in the ORDER at which as much is held as its least SPARES let."""
    most = len(order) + spares_for(change, order)
    return tuple([at for at, many in enumerate(needs_along(change, order)) if many == most])


def least_spares(change):
    """The least SPARES with which some ORDER is right."""
    return least_order(Room(change))[0]


def best_order(change):
    """The least of the ORDERS that are right with the least SPARES."""
    return least_order(Room(change))[1]


def right_orders(change, spares):
    """The ascending list of the ORDERS that are right with so many SPARES."""
    need_spares(spares)
    room = Room(change)
    steps = steps_of(room, spares)
    ways = ways_on(room, steps)
    # Blocks come in ascending order at each step, so the ORDERS do, too.
    found = [((), 0)]
    for _ in range(room.many):
        longer = []
        for order, made in found:
            for place in steps[made]:
                if ways[made | 1 << place] > 0:
                    longer.append(((*order, room.blocks[place]), made | 1 << place))
        found = longer
    return [order for order, made in found]


def how_many_right(change, spares):
    """How many ORDERS are right with so many SPARES."""
    need_spares(spares)
    room = Room(change)
    return ways_on(room, steps_of(room, spares))[0]


def nth_right(change, spares, number):
    """The ORDER with this number among those that are right with so many SPARES."""
    need_spares(spares)
    room = Room(change)
    steps = steps_of(room, spares)
    ways = ways_on(room, steps)
    need_number(number, 0, ways[0] - 1)
    return order_with(room, steps, ways, number)


def made_sets(change, spares):
    """The set of the sets that come."""
    need_spares(spares)
    room = Room(change)
    return _named(room, list(steps_of(room, spares)))


def _named(room, sets):
    return as_set([room.names_in(some) for some in sets])


def stuck_sets(change, spares):
    """The set of the sets that come, but the whole, where no block is let next."""
    need_spares(spares)
    room = Room(change)
    steps = steps_of(room, spares)
    return _named(room, [some for some in list(steps) if steps[some] == [] and some != room.whole()])


def fence(change, spares):
    """The FENCE that lies in all others; None if there is none."""
    found = made_sets(change, spares)
    return None if frozen(change[0]) in found else found


def is_fence(change, spares, thing):
    """Whether thing is a FENCE."""
    need_spares(spares)
    blocks = frozen(change[0])
    if not isinstance(thing, tuple) or not all([is_set_of(blocks, some) for some in thing]):
        return False
    if not ascends(thing) or () not in thing or blocks in thing:
        return False
    room = Room(change)
    known = {room.number_of(some): True for some in thing}
    return all([made | 1 << place in known for made in list(known) for place in room.let(made, spares)])


def turned(change, order, number):
    """The ORDER with the block at this place and the next one turned about."""
    need_order(change, order)
    need_number(number, 0, len(order) - 2)
    return _with_turn(order, number)


def _with_turn(order, number):
    return (*order[:number], order[number + 1], order[number], *order[number + 2:])


def saving_turns(change, order):
    """The set of the numbers of turns that need fewer SPARES."""
    need_order(change, order)
    room = Room(change)
    most = room.spares_of(order)
    return tuple([at for at in range(len(order) - 1) if room.spares_of(_with_turn(order, at)) < most])


def goes_behind(change):
    """The set of the pairs of which the first block goes behind the second one."""
    reads = [(block, as_set(recipe[1])) for block, recipe in zip(change[0], change[1])]
    return tuple([(one, other) for one, mine in reads for other, others in reads
                  if _goes_behind(one, mine, other, others)])


def _goes_behind(one, mine, other, others):
    """Whether the first block goes behind the second one, where they read these."""
    if mine == others:
        return one > other
    return all([block in others for block in mine])


def keeps_behind(change, order):
    """Whether each block stands in the ORDER behind all that it goes behind."""
    need_order(change, order)
    at = {block: place for place, block in enumerate(order)}
    return all([at[one] > at[other] for one, other in goes_behind(change)])


def order_behind(change):
    """The least of the ORDERS that are right with the least SPARES, each block behind all that it goes behind."""
    room = Room(change)
    pairs = goes_behind(change)
    behind = [room.number_of([other for one, other in pairs if one == block]) for block in room.blocks]
    return first_order(room, least_order(room)[0], behind)


def beside(one, other):
    """The CHANGE with the blocks and recipes of both."""
    blocks, recipes = frozen(one)
    others, more = frozen(other)
    for block in blocks:
        need_new(others, block)
    pairs = sorted(list(zip(blocks, recipes)) + list(zip(others, more)))
    return (tuple([block for block, recipe in pairs]), tuple([recipe for block, recipe in pairs]))


def with_recipe(change, block, recipe):
    """The CHANGE with this recipe for the block."""
    need_blocks(change[0], [block])
    blocks, recipes = frozen(change)
    told = [frozen(recipe) if own == block else old for own, old in zip(blocks, recipes)]
    if not is_change((blocks, tuple(told))):
        raise Unfit()
    return (blocks, tuple(told))
