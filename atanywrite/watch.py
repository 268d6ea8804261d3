"""A device watched: it does a ROW, deed by deed, and power can be lost at each."""

from atanywrite.errors import CanNot, NothingDone
from atanywrite.plays import end_numbers, ends_otherwise, held_behind_steps, marks_below, steps_of_play
from atanywrite.pools import Pool
from atanywrite.shapes import frozen
from atanywrite.terms import term_losses

DO = "do"
LOSE = "lose"


class Watch:
    """A device that does a ROW; for each deed, and now, it keeps the number of the move that comes next."""

    def __init__(self, row):
        self._row = frozen(row)
        self._told = []
        self._spots = [0]

    @property
    def row(self):
        """The ROW that is done."""
        return self._row

    @property
    def told(self):
        """The tuple of the deeds."""
        return tuple(self._told)

    @property
    def here(self):
        """The number of the move that comes next; how many moves there are, at the end."""
        return self._spots[-1]

    def __len__(self):
        return len(self._told)

    def __eq__(self, other):
        return isinstance(other, Watch) and self._row == other._row and self._told == other._told

    def do(self):
        """The next move is done."""
        self.go((DO,))

    def lose(self):
        """Power is lost while the next move writes."""
        self.go((LOSE,))

    def go(self, words):
        """These deeds are done, one behind another; all or none."""
        spots = _spots_along(self._row, self.here, words)
        if spots is None:
            raise CanNot()
        self._told.extend(list(words))
        self._spots.extend(spots)

    def back(self):
        """The last deed is taken back."""
        if self._told == []:
            raise NothingDone()
        self._told.pop()
        self._spots.pop()

    def twin(self):
        """An equal Watch of its own."""
        other = Watch(self._row)
        other.go(self.told)
        return other

    def _begun_so_far(self):
        """The moves begun, each with whether power was lost at it."""
        return list(zip(self._spots, [word == LOSE for word in self._told]))

    def play(self):
        """The PLAY so far."""
        return tuple([number for number, is_lost in self._begun_so_far() if is_lost])

    def contents(self):
        """The CONTENTS now."""
        pool = Pool()
        steps = []
        losses = 0
        for number, is_lost in self._begun_so_far():
            steps.append((number, losses if is_lost else None))
            losses += 1 if is_lost else 0
        held = held_behind_steps(pool, self._row, steps)
        return pool.terms([held[cell] for cell in self._row[0]])

    def spoilt(self):
        """The set of the cells whose TERM has something spoilt in it."""
        return tuple([cell for cell, term in zip(self._row[0], self.contents()) if term_losses(term) != ()])

    def begun(self):
        """For each move how often its write was begun."""
        numbers = self._spots[:-1]
        return tuple([numbers.count(number) for number in range(len(self._row[2]))])

    def end_now(self):
        """The END if no power is lost any more."""
        pool = Pool()
        return pool.terms(end_numbers(pool, self._row, self.play()))

    def is_well(self):
        """Whether this is the END of ()."""
        return not ends_otherwise(self._row, self.play())

    def next_harm(self):
        """The least move from here on at which one loss more gives another END than (); None if there is none."""
        play = self.play()
        for number in range(self.here, len(self._row[2])):
            if ends_otherwise(self._row, (*play, number)):
                return number
        return None


def _spots_along(row, spot, words):
    """The spots behind each of these deeds, done from this spot on; None if one of them can not be done."""
    below = marks_below(row)
    found = []
    here = spot
    for word in words:
        if here == len(below):
            return None
        here = below[here] if word == LOSE else here + 1
        found.append(here)
    return found


def words_for(row, play):
    """The tuple of the deeds by which a Watch plays this PLAY, to the end."""
    return tuple([DO if loss is None else LOSE for number, loss in steps_of_play(row, play)])


def is_words(row, thing):
    """Whether thing is a tuple of deeds that a Watch can do, one behind another."""
    if not isinstance(thing, tuple) or not all([word in (DO, LOSE) for word in thing]):
        return False
    return _spots_along(row, 0, thing) is not None
