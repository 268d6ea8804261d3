"""A board of ROWS under NAMES, with what is kept said of them, and everything taken back."""

from atanywrite.checks import need_new, need_number
from atanywrite.claims import claim_of, stands
from atanywrite.edits import edited
from atanywrite.errors import NoRow, NothingDone, Unfit
from atanywrite.losses import end_of, hazards
from atanywrite.plays import ends_otherwise, held_behind_steps, spot_behind, steps_of_play
from atanywrite.pools import Pool
from atanywrite.shapes import as_set, frozen
from atanywrite.wordings import CELL, KEEPS, is_word_of


class Board:
    """ROWS under NAMES, each with a PLAY so far and kept WORDS; a deed makes all anew, so what was is still there."""

    def __init__(self):
        self._now = {}
        self._past = []

    @property
    def names(self):
        """The set of the NAMEs."""
        return as_set(list(self._now))

    @property
    def deeds(self):
        """How many deeds can be taken back."""
        return len(self._past)

    def __len__(self):
        return len(self._now)

    def __contains__(self, name):
        return name in self._now

    def __getitem__(self, name):
        return self._told_of(name)[0]

    def __iter__(self):
        raise TypeError("a Board is not iterated over")

    def __eq__(self, other):
        return isinstance(other, Board) and self._now == other._now

    def _told_of(self, name):
        """The ROW with this name, its PLAY so far and its kept WORDS."""
        if name not in self._now:
            raise NoRow(name)
        return self._now[name]

    def _note(self, now):
        """A deed is done, by which the board comes to be this."""
        self._past.append(self._now)
        self._now = now

    def _note_one(self, name, row, play, words):
        """A deed is done, by which this comes to be told of this name."""
        self._note({**self._now, name: (row, play, words)})

    def put(self, name, row):
        """The ROW is put under this name."""
        need_new(self._now, name)
        self._note_one(name, frozen(row), (), ())

    def drop(self, name):
        """The ROW with this name goes."""
        self._told_of(name)
        self._note({own: self._now[own] for own in list(self._now) if own != name})

    def rename(self, name, new):
        """The ROW with this name is called new."""
        self._told_of(name)
        need_new([own for own in list(self._now) if own != name], new)
        self._note({new if own == name else own: self._now[own] for own in list(self._now)})

    def edit(self, name, edit):
        """The ROW becomes what is behind this EDIT; its PLAY begins anew, its WORDS stay kept."""
        row, _, words = self._told_of(name)
        self._note_one(name, edited(row, edit), (), words)

    def lose(self, name, number):
        """Power is lost once more, at this move."""
        row, play, words = self._told_of(name)
        need_number(number, spot_behind(row, play), len(row[2]) - 1)
        self._note_one(name, row, (*play, number), words)

    def keep(self, name, word):
        """The WORD is kept of the ROW."""
        row, play, words = self._told_of(name)
        claim_of(row, word)
        self._note_one(name, row, play, as_set([frozen(word), *words]))

    def free(self, name, word):
        """The WORD is kept of the ROW no longer."""
        row, play, words = self._told_of(name)
        told = frozen(word)
        if told not in words:
            raise Unfit()
        self._note_one(name, row, play, tuple([own for own in words if own != told]))

    def undo(self):
        """The last deed left is taken back."""
        if self._past == []:
            raise NothingDone()
        self._now = self._past.pop()

    def twin(self):
        """An equal Board with the same deeds to be taken back, on its own."""
        other = Board()
        other._now = self._now
        other._past = list(self._past)
        return other

    def play(self, name):
        """The PLAY so far."""
        return self._told_of(name)[1]

    def spot(self, name):
        """The spot from which the device goes on behind the PLAY so far."""
        row, play, _ = self._told_of(name)
        return spot_behind(row, play)

    def contents(self, name):
        """The CONTENTS where the device goes on."""
        row, play, _ = self._told_of(name)
        steps = steps_of_play(row, play)
        still = len(row[2]) - spot_behind(row, play)
        pool = Pool()
        held = held_behind_steps(pool, row, steps[:len(steps) - still])
        return pool.terms([held[cell] for cell in row[0]])

    def end(self, name):
        """The END of the PLAY so far."""
        row, play, _ = self._told_of(name)
        return end_of(row, play)

    def words(self, name):
        """The set of the kept WORDS."""
        return self._told_of(name)[2]

    def standing(self, name):
        """The set of the kept WORDS that stand."""
        row, _, words = self._told_of(name)
        return tuple([word for word in words if _stands_of(row, word)])

    def lost(self, name):
        """The set of the kept WORDS that are none of the ROW."""
        row, _, words = self._told_of(name)
        return tuple([word for word in words if not is_word_of(row, word)])

    def sure(self, name):
        """The set of the kept WORDS of the ROW that are so, whatever is still to come."""
        row, play, words = self._told_of(name)
        return tuple([word for word in words if is_word_of(row, word) and _is_sure(row, play, word)])

    def spoilt_by(self, name, edit):
        """The set of the kept WORDS that stand, and would not behind this EDIT."""
        row, _, words = self._told_of(name)
        behind = edited(row, edit)
        return tuple([word for word in words if _stands_of(row, word) and not _stands_of(behind, word)])

    def mended_by(self, name, edit):
        """The set of the kept WORDS that do not stand, and would behind this EDIT."""
        row, _, words = self._told_of(name)
        behind = edited(row, edit)
        return tuple([word for word in words if not _stands_of(row, word) and _stands_of(behind, word)])


def _stands_of(row, word):
    """Whether this is a WORD of the ROW, and stands."""
    return is_word_of(row, word) and stands(claim_of(row, word))


def _is_sure(row, play, word):
    """Whether the WORD stands; of keeps and cell, whether it is so by all PLAYS that begin with this one."""
    if word[0] not in (KEEPS, CELL):
        return stands(claim_of(row, word))
    cells, wanted, moves, marks = row
    kept = (cells, wanted if word[0] == KEEPS else (word[1],), moves, marks)
    # A further loss leaves something new in the END by a HAZARD alone, and all of these ahead are past.
    spot = spot_behind(row, play)
    return not ends_otherwise(kept, play) and all([hazard[0] < spot for hazard in hazards(kept)])
