"""The fewest MOVES by which the cells of blocks come to hold what they ought to hold."""

from heapq import heappop, heappush

from atanywrite.rooms import recipe_term
from atanywrite.shapes import COPY

# What a spare cell holds at the beginning: no PLAN reads it.
NO_TERM = -1


class Search:
    """TERMS are told by numbers; a state tells for each cell what it holds."""

    def __init__(self, change, cells):
        blocks, recipes = change
        self.cells = cells
        numbers = {("old", block): place for place, block in enumerate(blocks)}
        self.first = tuple([numbers.get(("old", cell), NO_TERM) for cell in cells])
        self.calls = {}
        self.goal = []
        for block, (name, reads) in zip(blocks, recipes):
            number = numbers.setdefault(recipe_term((name, reads)), len(numbers))
            self.goal.append((list(cells).index(block), number))
            if name != COPY:
                self.calls[number] = (name, [numbers[("old", read)] for read in reads])

    def wrong(self, state):
        """How many blocks' cells do not hold what they ought to: each needs a MOVE more."""
        return len([place for place, number in self.goal if state[place] != number])

    def is_lost(self, state):
        """Whether something that ought to be held can come no more."""
        gone = [number for place, number in self.goal if number not in state]
        return not all([number in self.calls and self.is_ready(number, state) for number in gone])

    def is_ready(self, number, held):
        """Whether all that the function of this TERM reads is held."""
        return all([old in held for old in self.calls[number][1]])

    def writes(self, state):
        """The pairs of a place and a TERM that a MOVE can write there, not reading that cell."""
        found = []
        for place, held in enumerate(state):
            others = state[:place] + state[place + 1:]
            ready = [number for number in list(self.calls) if self.is_ready(number, others)]
            copied = [number for number in others if number != NO_TERM]
            found.extend([(place, number) for number in sorted(set(ready + copied)) if number != held])
        return found

    def steps(self):
        """The fewest writes, in order, that lead to the goal; None if none do."""
        behind = {self.first: None}
        many = {self.first: 0}
        queue = [(self.wrong(self.first), self.first)]
        while queue:
            _, state = heappop(queue)
            if self.wrong(state) == 0:
                return _path(behind, state)
            for place, number in self.writes(state):
                other = (*state[:place], number, *state[place + 1:])
                if many[state] + 1 < many.get(other, many[state] + 2) and not self.is_lost(other):
                    many[other] = many[state] + 1
                    behind[other] = (state, place, number)
                    heappush(queue, (many[other] + self.wrong(other), other))
        return None

    def move_of(self, state, place, number):
        """The MOVE that writes this TERM at this place."""
        to = self.cells[place]
        cells = {held: cell for cell, held in zip(self.cells, state) if cell != to}
        if number in cells:
            return (COPY, (cells[number],), to)
        name, olds = self.calls[number]
        return (name, tuple([cells[old] for old in olds]), to)


def fewest_moves(change, cells):
    """The fewest MOVES by which the blocks' cells come to hold what they ought to; None if there are none."""
    search = Search(change, cells)
    steps = search.steps()
    return None if steps is None else tuple([search.move_of(*step) for step in steps])


def _path(behind, state):
    """The steps that lead to this state, from the first one on."""
    found = []
    while behind[state] is not None:
        found.append(behind[state])
        state = behind[state][0]
    return found[::-1]
