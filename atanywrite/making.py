"""MOVES by which the TERMS of a CHANGE come to be held by the cells of its blocks."""

from atanywrite.rooms import recipe_term


class Ground:
    """The cells of a CHANGE with what they hold, and the MOVES done on them one behind another."""

    def __init__(self, change, cells):
        self.blocks, recipes = change
        self.cells = cells
        self.recipes = {recipe_term(recipe): recipe for recipe in recipes}
        self.goal = {block: recipe_term(recipe) for block, recipe in zip(self.blocks, recipes)}
        self.held = {cell: ("old", cell) for cell in cells}
        self.moves = []

    def holders(self, term):
        """The cells that hold this TERM."""
        return [cell for cell in self.cells if self.held[cell] == term]

    def is_free(self, cell, needed):
        """Whether the cell may be written so that the TERMS needed are still held."""
        return self.held[cell] not in needed or len(self.holders(self.held[cell])) > 1

    def is_right(self, cell):
        """Whether the cell is that of a block and holds what it ought to hold in the end."""
        return cell in self.goal and self.held[cell] == self.goal[cell]

    def source(self, term, cell):
        """Another cell than this one that holds the TERM."""
        return [holder for holder in self.holders(term) if holder != cell][0]

    def copy_to(self, term, cell):
        """The TERM is copied to this cell."""
        self.note(("copy", (self.source(term, cell),), cell), term)

    def make(self, term, cell):
        """The TERM is made in this cell by its function."""
        name, reads = self.recipes[term]
        self.note((name, tuple([self.source(("old", read), cell) for read in reads]), cell), term)

    def note(self, move, term):
        """This move, which writes the TERM, is done."""
        self.moves.append(move)
        self.held[move[2]] = term


def make_next(ground, term, needed):
    """The TERM comes to be held, and those needed are still; there has to be room for all of them."""
    if ground.holders(term) != []:
        return
    free = [cell for cell in ground.cells if ground.is_free(cell, needed)]
    own = [cell for cell in free if ground.goal.get(cell) == term]
    ground.make(term, [*own, *free][0])


def arrange(ground):
    """Each block's cell comes to hold what it ought to hold; all of this is held somewhere."""
    left = _wrong_blocks(ground)
    while left:
        needed = [ground.goal[block] for block in left]
        free = [block for block in left if ground.is_free(block, needed)]
        if free:
            ground.copy_to(ground.goal[free[0]], free[0])
        else:
            # These hold one another's TERMS: one of them steps aside.
            aside = [cell for cell in ground.cells if cell not in left and not ground.is_right(cell)]
            ground.copy_to(ground.held[left[0]], aside[0])
        left = _wrong_blocks(ground)


def _wrong_blocks(ground):
    return [block for block in ground.blocks if not ground.is_right(block)]
