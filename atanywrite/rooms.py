"""How much is held while the blocks of a CHANGE are made; sets of blocks and of TERMS are told by numbers."""

from atanywrite.checks import need_blocks
from atanywrite.errors import NoNumber, Unfit
from atanywrite.rows import is_order
from atanywrite.shapes import COPY, frozen


def recipe_term(recipe):
    """The TERM that this recipe makes of the old blocks."""
    name, reads = recipe
    if name == COPY:
        return ("old", reads[0])
    return (name, tuple([("old", block) for block in reads]))


def need_order(change, order):
    """The order has to be an ORDER of the CHANGE."""
    need_blocks(change[0], order)
    if not is_order(change, frozen(order)):
        raise Unfit()


class Room:
    """In a number that tells a set, the bit at a place tells the block there; behind these come the TERMS made."""

    def __init__(self, change):
        blocks, recipes = change
        self.blocks = tuple(blocks)
        self.many = len(blocks)
        bits = {block: 1 << place for place, block in enumerate(blocks)}
        self.bits = bits
        # Old blocks have the same bits as TERMS and as what is read.
        terms = {}
        self.term_bits = []
        self.read_bits = []
        for name, reads in recipes:
            if name == COPY:
                self.term_bits.append(bits[reads[0]])
            else:
                self.term_bits.append(terms.setdefault((name, *reads), 1 << (self.many + len(terms))))
            self.read_bits.append(sum([bits[block] for block in reads]))

    def names_in(self, some):
        """The tuple of the blocks in this set."""
        return tuple([block for place, block in enumerate(self.blocks) if some >> place & 1])

    def number_of(self, names):
        """The number that tells the set of these blocks."""
        found = 0
        for name in names:
            found = found | self.bits[name]
        return found

    def whole(self):
        """The set of all blocks."""
        return (1 << self.many) - 1

    def kept(self, some):
        """The TERMS that are held where these are made and another block is next, but for its own."""
        found = 0
        left = some
        for term, read in zip(self.term_bits, self.read_bits):
            found = found | (term if left & 1 else read)
            left = left >> 1
        return found

    def needs(self, order):
        """For each block of the ORDER how many TERMS are held where those ahead are made and it is next."""
        found = []
        made = 0
        for block in order:
            bit = self.bits[block]
            found.append(how_many_in(self.kept(made) | self.term_bits[bit.bit_length() - 1]))
            made = made | bit
        return found

    def spares_of(self, order):
        """The least SPARES with which the ORDER is right."""
        return max(1, max(self.needs(order)) - self.many)

    def let(self, some, spares):
        """The places of the blocks that are let next where these are made."""
        kept = self.kept(some)
        free = self.many + spares - how_many_in(kept)
        if free < 0:
            return []
        # What is next adds its own TERM, at the most.
        return [place for place, term in enumerate(self.term_bits)
                if not some >> place & 1 and (free > 0 or term & kept)]


def how_many_in(number):
    """How many bits of the number are set."""
    digits = f"{number:b}"
    return digits.count("1")


def can_come(room, some, spares):
    """Whether all blocks can come to be made, one behind another, from where these are."""
    return _places_on(room, some, spares, [0] * room.many) is not None


def first_order(room, spares, behind):
    """The least ORDER that is right with so many SPARES, each block behind the set in its place; None without any."""
    places = _places_on(room, 0, spares, behind)
    return None if places is None else tuple([room.blocks[place] for place in places])


def _places_on(room, some, spares, behind):
    """The least list of places, each let next, that leads from where these are made to all; None if none does."""
    made = some
    seen = {made: True}
    path = []
    # For each set on the way the places that are still to be tried.
    todo = [_places_next(room, made, spares, behind)]
    while made != room.whole():
        if todo[-1]:
            place = todo[-1].pop()
            if made | 1 << place not in seen:
                made = made | 1 << place
                seen[made] = True
                path.append(place)
                todo.append(_places_next(room, made, spares, behind))
        elif path == []:
            return None
        else:
            made = made - (1 << path.pop())
            todo.pop()
    return path


def _places_next(room, made, spares, behind):
    """The places let next that do not wait for others, descending."""
    return [place for place in room.let(made, spares)[::-1] if behind[place] & made == behind[place]]


def least_order(room):
    """The pair of the least SPARES with which some ORDER is right, and the least such ORDER."""
    spares = 1
    order = first_order(room, spares, [0] * room.many)
    while order is None:
        spares += 1
        order = first_order(room, spares, [0] * room.many)
    return (spares, order)


def steps_of(room, spares):
    """For each set that comes the places let next."""
    steps = {}
    todo = [0]
    while todo:
        made = todo.pop()
        if made not in steps:
            steps[made] = room.let(made, spares)
            todo.extend([made | 1 << place for place in steps[made]])
    return steps


def ways_on(room, steps):
    """For each of the sets in how many ways these steps lead from it to the whole."""
    ways = {}
    for made in sorted(list(steps), reverse=True):
        if made == room.whole():
            ways[made] = 1
        else:
            ways[made] = sum([ways[made | 1 << place] for place in steps[made]])
    return ways


def order_with(room, steps, ways, number):
    """The ORDER with this number among those that the steps lead through, in ascending order."""
    order = []
    made = 0
    left = number
    while made != room.whole():
        place, left = _step_with(ways, made, steps[made], left)
        order.append(room.blocks[place])
        made = made | 1 << place
    return tuple(order)


def _step_with(ways, made, places, number):
    """The pair of the place with which the way with this number goes on, and its number among those that do so."""
    left = number
    for place in places:
        many = ways[made | 1 << place]
        if left < many:
            return (place, left)
        left -= many
    raise NoNumber(number)
