"""The fewest MOVES by which the cells of blocks come to hold what they ought to hold."""

from heapq import heappop, heappush

from atanywrite.rooms import recipe_term
from atanywrite.shapes import COPY

# What a spare cell holds at the beginning: no PLAN reads it.
NO_TERM = 0


class Search:
    """TERMS are told by numbers from 1; a state tells in one number what the cells hold, the first cell foremost."""

    def __init__(self, change, cells):
        blocks, recipes = change
        self.cells = cells
        numbers = {("old", block): place for place, block in enumerate(blocks, 1)}
        first = [numbers.get(("old", cell), NO_TERM) for cell in cells]
        # For each TERM that a function makes this one and what it reads, of which the bits are told together, too.
        self.calls = {}
        self.needed = {}
        self.goal = [None] * len(cells)
        for block, (name, reads) in zip(blocks, recipes):
            number = numbers.setdefault(recipe_term((name, reads)), len(numbers) + 1)
            self.goal[list(cells).index(block)] = number
            if name != COPY:
                self.calls[number] = (name, [numbers[("old", read)] for read in reads])
                self.needed[number] = sum([1 << numbers[("old", read)] for read in reads])
        self.many = len(numbers) + 1
        width = self.many.bit_length()
        self.mask = (1 << width) - 1
        self.shifts = [width * place for place in reversed(range(len(cells)))]
        self.first = sum([held << shift for held, shift in zip(first, self.shifts)])
        self.writable = {}

    def held_in(self, state):
        """What the cells hold in this state."""
        return [state >> shift & self.mask for shift in self.shifts]

    def wrong(self, state):
        """How many blocks' cells do not hold what they ought to: each needs a MOVE more."""
        pairs = zip(self.held_in(state), self.goal)
        return len([held for held, number in pairs if number is not None and held != number])

    def is_lost(self, bits):
        """Whether something that ought to be held can come no more where these TERMS are held."""
        gone = [number for number in self.goal if number is not None and not bits >> number & 1]
        return not all([number in self.needed and self.needed[number] & bits == self.needed[number] for number in gone])

    def writes(self, others):
        """The TERMS that a MOVE can write where the other cells hold these, none being lost."""
        if others not in self.writable:
            needed = self.needed
            numbers = [number for number in range(1, self.many) if others >> number & 1
                       or number in needed and needed[number] & others == needed[number]]
            self.writable[others] = [number for number in numbers if not self.is_lost(others | 1 << number)]
        return self.writable[others]

    def steps_from(self, state):
        """The triples of a place, a TERM that is written there, and the state behind that."""
        held = self.held_in(state)
        once = 0
        twice = 0
        for number in held:
            bit = 1 << number
            twice = twice | (once & bit)
            once = once | bit
        found = []
        for place, (number, shift) in enumerate(zip(held, self.shifts)):
            others = once if twice >> number & 1 else once - (1 << number)
            left = state - (number << shift)
            found.extend([(place, new, left + (new << shift)) for new in self.writes(others) if new != number])
        return found

    def steps(self):
        """The fewest writes, in order, that lead to the goal; None if none do."""
        behind = {self.first: None}
        many = {self.first: 0}
        done = {}
        queue = [(self.wrong(self.first), self.first)]
        while queue:
            together, state = heappop(queue)
            wrong = together - many[state]
            if wrong == 0:
                return _path(behind, state)
            if state in done:
                continue
            done[state] = True
            next_many = many[state] + 1
            for place, number, other in self.steps_from(state):
                if next_many < many.get(other, next_many + 1):
                    many[other] = next_many
                    behind[other] = (state, place, number)
                    heappush(queue, (next_many + wrong + self.more_wrong(state, place, number), other))
        return None

    def more_wrong(self, state, place, number):
        """How many more blocks' cells are wrong when this TERM is written at this place."""
        goal = self.goal[place]
        if goal is None:
            return 0
        was_wrong = state >> self.shifts[place] & self.mask != goal
        if was_wrong == (number != goal):
            return 0
        return -1 if was_wrong else 1

    def move_of(self, state, place, number):
        """The MOVE that writes this TERM at this place."""
        to = self.cells[place]
        cells = {held: cell for cell, held in zip(self.cells, self.held_in(state)) if cell != to}
        if number in cells:
            return (COPY, (cells[number],), to)
        name, olds = self.calls[number]
        return (name, tuple([cells[old] for old in olds]), to)


def fewest_moves(change, cells):
    """The fewest MOVES by which the blocks' cells come to hold what they ought to; None if there are none."""
    search = Search(change, cells)
    steps = search.steps()
    return None if steps is None else tuple([search.move_of(*step) for step in steps])


def _path(behind, state):
    """The steps that lead to this state, from the first one on."""
    found = []
    while behind[state] is not None:
        found.append(behind[state])
        state = behind[state][0]
    return found[::-1]
