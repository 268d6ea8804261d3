"""TERMS told by numbers, and what cells hold so told."""

from atanywrite.shapes import COPY


class Pool:
    """Gives each TERM a number, equal ones the same: these are compared, however deep the TERMS are."""

    def __init__(self):
        self.numbers = {}
        self.known = []

    def old(self, cell):
        """The number of what this cell held at the beginning."""
        return self.number_of(("old", cell), ("old", cell))

    def spoilt(self, place):
        """The number of what the loss at this place leaves."""
        return self.number_of(("spoilt", place), ("spoilt", place))

    def made(self, name, parts):
        """The number of what this function makes of the TERMS with these numbers."""
        return self.number_of((name, parts), (name, self.terms(parts)))

    def number_of(self, key, term):
        """The number of this TERM; in its key its parts are told by their numbers."""
        if key not in self.numbers:
            self.numbers[key] = len(self.known)
            self.known.append(term)
        return self.numbers[key]

    def terms(self, numbers):
        """The tuple of the TERMS with these numbers."""
        return tuple([self.known[number] for number in numbers])


def held_at_first(pool, cells):
    """For each cell the number of its TERM at the beginning."""
    return {cell: pool.old(cell) for cell in cells}


def number_by(pool, held, move):
    """The number of the TERM that this move writes where the cells hold these."""
    name, reads, _ = move
    if name == COPY:
        return held[reads[0]]
    return pool.made(name, tuple([held[cell] for cell in reads]))


def held_behind(pool, held, moves):
    """What the cells hold behind these moves, undisturbed."""
    behind = {**held}
    for move in moves:
        behind[move[2]] = number_by(pool, behind, move)
    return behind
