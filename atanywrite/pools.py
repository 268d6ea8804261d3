"""TERMS told by numbers, and what cells hold so told."""

from atanywrite.shapes import COPY, NO_FUNCTIONS


class Pool:
    """Gives each TERM a number, equal ones the same: these are compared, however deep the TERMS are."""

    def __init__(self):
        self.numbers = {}
        # What tells each TERM, by its number; the first ones as TERMS, made only when they are asked for.
        self.tellings = []
        self.known = []

    def old(self, cell):
        """The number of what this cell held at the beginning."""
        return self.number_of(("old", cell))

    def spoilt(self, place):
        """The number of what the loss at this place leaves."""
        return self.number_of(("spoilt", place))

    def made(self, name, parts):
        """The number of what this function makes of the TERMS with these numbers."""
        return self.number_of((name, parts))

    def number_of(self, telling):
        """The number of the TERM that is told so: as itself, its PARTS by their numbers."""
        if telling not in self.numbers:
            self.numbers[telling] = len(self.tellings)
            self.tellings.append(telling)
        return self.numbers[telling]

    def terms(self, numbers):
        """The tuple of the TERMS with these numbers."""
        new = self.tellings[len(self.known):]
        for name, behind in new:
            parts = behind if name in NO_FUNCTIONS else tuple([self.known[number] for number in behind])
            self.known.append((name, parts))
        return tuple([self.known[number] for number in numbers])


def held_at_first(pool, cells):
    """For each cell the number of its TERM at the beginning."""
    return {cell: pool.old(cell) for cell in cells}


def number_by(pool, held, move):
    """The number of the TERM that this move writes where the cells hold these."""
    name, reads, _ = move
    if name == COPY:
        return held[reads[0]]
    return pool.made(name, tuple([held[cell] for cell in reads]))


def held_behind(pool, held, moves):
    """What the cells hold behind these moves, undisturbed."""
    behind = {**held}
    for move in moves:
        behind[move[2]] = number_by(pool, behind, move)
    return behind
