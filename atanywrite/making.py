"""MOVES by which the TERMS of a CHANGE come to be held by the cells of its blocks."""

from atanywrite.shapes import COPY


class Ground:
    """The cells of a CHANGE with what they hold, told by the bits of its Room, and the MOVES done on them."""

    def __init__(self, room, change, cells):
        self.room = room
        self.recipes = change[1]
        self.cells = cells
        at = {cell: place for place, cell in enumerate(cells)}
        # Where the cells of the blocks stand, in the order of these.
        self.own = [at[block] for block in room.blocks]
        # Nobody asks for what spare cells hold at first: no bit tells it.
        self.held = [0] * len(cells)
        for place, cell in enumerate(self.own):
            self.held[cell] = 1 << place
        self.moves = []

    def is_free(self, cell, needed):
        """Whether the cell may be written so that the TERMS needed are still held."""
        return self.held[cell] & needed == 0 or self.held.count(self.held[cell]) > 1

    def source(self, term):
        """The first cell that holds the TERM; what is to be written never does."""
        return self.cells[self.held.index(term)]

    def copy_to(self, term, cell):
        """The TERM is copied to this cell."""
        self.moves.append((COPY, (self.source(term),), self.cells[cell]))
        self.held[cell] = term

    def make(self, place, cell):
        """The TERM of the block at this place is made in this cell by its function."""
        name, reads = self.recipes[place]
        sources = tuple([self.source(self.room.bits[read]) for read in reads])
        self.moves.append((name, sources, self.cells[cell]))
        self.held[cell] = self.room.term_bits[place]

    def wrong_blocks(self):
        """The places of the blocks whose cells do not hold what they ought to."""
        wanted = self.room.term_bits
        return [place for place, cell in enumerate(self.own) if self.held[cell] != wanted[place]]


def make_in_order(ground, order):
    """The TERMS of all blocks come to be held, in this ORDER; there has to be room for it."""
    room = ground.room
    made = 0
    for block in order:
        bit = room.bits[block]
        place = bit.bit_length() - 1
        _make_next(ground, place, room.kept(made) & ~room.term_bits[place])
        made = made | bit


def _make_next(ground, place, needed):
    """The TERM of this block comes to be held, and those needed are still."""
    terms = ground.room.term_bits
    if terms[place] in ground.held:
        return
    own = [cell for other, cell in enumerate(ground.own) if terms[other] == terms[place]]
    for cell in own + list(range(len(ground.cells))):
        if ground.is_free(cell, needed):
            ground.make(place, cell)
            return


def arrange(ground):
    """Each block's cell comes to hold what it ought to hold; all of this is held somewhere."""
    terms = ground.room.term_bits
    left = ground.wrong_blocks()
    while left:
        needed = 0
        for place in left:
            needed = needed | terms[place]
        free = [place for place in left if ground.is_free(ground.own[place], needed)]
        if free:
            ground.copy_to(terms[free[0]], ground.own[free[0]])
        else:
            # These hold one another's TERMS: one of them steps aside, to a spare cell.
            aside = [cell for cell in range(len(ground.cells)) if cell not in ground.own]
            ground.copy_to(ground.held[ground.own[left[0]]], aside[0])
        left = ground.wrong_blocks()
