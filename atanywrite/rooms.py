"""How much is held while the blocks of a CHANGE are made; sets of blocks and of TERMS are told by numbers."""

from atanywrite.errors import NoNumber
from atanywrite.shapes import COPY


def recipe_term(recipe):
    """The TERM that this recipe makes of the old blocks."""
    name, reads = recipe
    olds = tuple([("old", block) for block in reads])
    return olds[0] if name == COPY else (name, olds)


class Room:
    """In a number that tells a set, the bit at a place tells the block there; behind these come the TERMS made."""

    def __init__(self, change):
        blocks, recipes = change
        self.blocks = blocks
        self.many = len(blocks)
        bits = {block: 1 << place for place, block in enumerate(blocks)}
        # Old blocks have the same bits as TERMS and as what is read.
        terms = {("old", block): bits[block] for block in blocks}
        for recipe in recipes:
            terms.setdefault(recipe_term(recipe), 1 << len(terms))
        self.term_bits = [terms[recipe_term(recipe)] for recipe in recipes]
        self.read_bits = [sum([bits[block] for block in reads]) for name, reads in recipes]

    def places_in(self, some):
        """The places of the blocks in this set, ascending."""
        return [place for place in range(self.many) if some >> place & 1]

    def names_in(self, some):
        """The tuple of the blocks in this set."""
        return tuple([self.blocks[place] for place in self.places_in(some)])

    def number_of(self, names):
        """The number that tells the set of these blocks."""
        return sum([1 << place for place in range(self.many) if self.blocks[place] in names])

    def whole(self):
        """The set of all blocks."""
        return (1 << self.many) - 1

    def kept(self, some):
        """The TERMS that are held where these are made and another block is next, but for its own."""
        needed = [self.read_bits[place] for place in self.places_in(self.whole() - some)]
        return _together(needed + [self.term_bits[place] for place in self.places_in(some)])

    def need(self, some, place):
        """How many TERMS are held where these are made and the block at the place is next."""
        return how_many_in(self.kept(some) | self.term_bits[place])

    def let(self, some, spares):
        """The places of the blocks that are let next where these are made."""
        kept = self.kept(some)
        left = self.places_in(self.whole() - some)
        return [place for place in left if how_many_in(kept | self.term_bits[place]) <= self.many + spares]


def _together(sets):
    """The set of all that is in one of these."""
    found = 0
    for one in sets:
        found = found | one
    return found


def how_many_in(number):
    """How many bits of the number are set."""
    many = 0
    while number > 0:
        number = number & (number - 1)
        many += 1
    return many


def can_come(room, some, spares):
    """Whether all blocks can come to be made, one behind another, from where these are."""
    seen = {}
    todo = [some]
    while todo and room.whole() not in seen:
        made = todo.pop()
        if made not in seen:
            seen[made] = True
            todo.extend([made | 1 << place for place in room.let(made, spares)])
    return room.whole() in seen


def steps_of(room, spares, behind):
    """For each set that comes the places let next, where for each place behind has the set that it waits for."""
    steps = {}
    todo = [0]
    while todo:
        made = todo.pop()
        if made not in steps:
            let = room.let(made, spares)
            steps[made] = [place for place in let if behind[place] & made == behind[place]]
            todo.extend([made | 1 << place for place in steps[made]])
    return steps


def ways_on(room, steps):
    """For each of the sets in how many ways these steps lead from it to the whole."""
    ways = {}
    for made in sorted(list(steps), reverse=True):
        if made == room.whole():
            ways[made] = 1
        else:
            ways[made] = sum([ways[made | 1 << place] for place in steps[made]])
    return ways


def order_with(room, steps, number):
    """The ORDER with this number among those that the steps lead through, in ascending order."""
    ways = ways_on(room, steps)
    order = []
    made = 0
    left = number
    while made != room.whole():
        place, left = _step_with(ways, made, steps[made], left)
        order.append(room.blocks[place])
        made = made | 1 << place
    return tuple(order)


def _step_with(ways, made, places, number):
    """The pair of the place with which the way with this number goes on, and its number among those that do so."""
    left = number
    for place in places:
        many = ways[made | 1 << place]
        if left < many:
            return (place, left)
        left -= many
    raise NoNumber(number)
