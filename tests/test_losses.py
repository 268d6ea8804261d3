"""Point 6: PLAYS, what comes of them, HAZARDS, PAPERS, and what can differ."""

import itertools
import unittest

from atanywrite import losses, rows
from atanywrite.terms import term_losses
from tests import brute
from tests.common import FULL, ROW, SINGLE, STILL, STRANGE, list_at_each_depth, nested, no_cell, no_number, refusal
from tests.common import with_strange_parts

SWAP = (("a", "b", "t"), ("a", "b"), (("copy", ("a",), "t"), ("copy", ("b",), "a"), ("copy", ("t",), "b")), ())
SURE = SWAP[:3] + ((1, 2),)
PLUS = (("n",), ("n",), (("add", ("n",), "n"),), ())
IDLE = (("a", "b", "t"), ("a",), (("f", ("a",), "t"), ("g", ("b",), "a")), ())


def many_rows():
    yield from brute.small_rows()
    yield from brute.long_rows(29)


def some_rows():
    yield from itertools.islice(brute.small_rows(), 0, None, 7)
    yield from brute.long_rows(97)


class PlayTest(unittest.TestCase):
    def test_goes_on_from(self):
        for row in (SWAP, SURE, ROW, FULL, SINGLE):
            for number in range(len(row[2])):
                self.assertEqual(losses.goes_on_from(row, number), brute.mark_below(row, number))
            for number in (-1, len(row[2]), 10 ** 9):
                self.assertEqual(refusal(losses.goes_on_from, row, number), no_number(number))
        self.assertEqual(refusal(losses.goes_on_from, STILL, 0), no_number(0))

    def test_is_play(self):
        for row in (SWAP, SURE, ROW, SINGLE, STILL):
            for many in range(4):
                for numbers in itertools.product(range(-1, len(row[2]) + 1), repeat=many):
                    self.assertEqual(losses.is_play(row, numbers), brute.is_play(row, numbers))
        self.assertTrue(losses.is_play(SWAP, (2,) * 1000))
        self.assertFalse(losses.is_play(SURE, (2,) * 1000 + (0,)))

    def test_is_no_play(self):
        for thing in STRANGE + [[], [1], (True,), (False,), (1, True), ("1",), (None,), nested(30), (1, (1,))]:
            self.assertEqual(losses.is_play(SURE, thing), thing in ((), (0,) * 1000))
        for thing in with_strange_parts((1, 2)):
            self.assertFalse(losses.is_play(SURE, thing))

    def test_runs(self):
        for row in many_rows():
            for play in brute.plays(row, 2):
                begun, along = brute.run(row, play)
                self.assertEqual(losses.begun(row, play), tuple(begun))
                self.assertEqual(losses.end_of(row, play), brute.end(row, play))
        for row in some_rows():
            for play in brute.plays(row, 2):
                along = brute.run(row, play)[1]
                told = losses.contents_along(row, play)
                self.assertEqual(told, [brute.contents(row, held) for held in along])
                told.append(1)
                self.assertEqual(losses.contents_along(row, play), told[:-1])

    def test_play_from(self):
        for row in (SWAP, SURE, ROW, SINGLE, STILL, PLUS, IDLE, SWAP[:3] + ((1,),), SWAP[:3] + ((2,),)):
            many = len(row[2])
            right = {tuple(brute.run(row, play)[0]): play for play in brute.plays(row, 5)}
            for length in range(6):
                for numbers in itertools.product(range(-1, many + 1), repeat=length):
                    self.assertEqual(losses.play_from(row, numbers), right.get(numbers))
        for row in some_rows():
            for play in brute.plays(row, 3):
                begun = losses.begun(row, play)
                self.assertEqual(losses.play_from(row, begun), play)
                self.assertIsNone(losses.play_from(row, (*begun, len(row[2]))))
                if begun:
                    cut = losses.play_from(row, begun[:-1])
                    self.assertEqual(cut is None, begun[-2:] != begun[-1:] * 2)
                    self.assertIsNone(losses.play_from(row, (*begun, begun[-1] + 1)))

    def test_most_begun(self):
        for row in some_rows():
            for number in range(4):
                lengths = [len(brute.run(row, play)[0]) for play in brute.plays(row, number) if len(play) == number]
                self.assertEqual(losses.most_begun(row, number), max(lengths, default=None))
        self.assertEqual(losses.most_begun(SURE, 10 ** 9), 10 ** 9 + 3)
        self.assertEqual(losses.most_begun(STILL, 0), 0)
        self.assertIsNone(losses.most_begun(STILL, 1))
        self.assertIsNone(losses.most_begun(STILL, 10 ** 9))
        self.assertEqual(refusal(losses.most_begun, SURE, -1), no_number(-1))

    def test_ends_by(self):
        for row in some_rows():
            for number in range(3):
                ends = {brute.end(row, play) for play in brute.short_plays(row, number)}
                self.assertEqual(losses.ends_by(row, number), tuple(sorted(ends)))
        self.assertEqual(refusal(losses.ends_by, SWAP, -1), no_number(-1))
        self.assertEqual(refusal(losses.ends_by, SWAP, 3), no_number(3))

    def test_only_plays_that_begin_at_most_20(self):
        cells = tuple("abcdefg")
        for marks in ((), (2,), (3, 4)):
            # Each loss shows in another cell at the end.
            row = (cells, cells, tuple(("f", (cell,), cell) for cell in cells), marks)
            short = brute.short_plays(row, 2)
            self.assertEqual(losses.ends_by(row, 2), tuple(sorted({brute.end(row, play) for play in short})))
        row = row[:3] + ((),)
        short = brute.short_plays(row, 2)
        self.assertEqual([(6, 5) in short, (6, 6) in short], [True, False])
        self.assertIn(brute.end(row, (6, 5)), losses.ends_by(row, 2))
        self.assertNotIn(brute.end(row, (6, 6)), losses.ends_by(row, 2))
        long = (("a",), ("a",), (("f", ("a",), "a"),) * 21, ())
        self.assertEqual(losses.ends_by(long, 1), ())
        self.assertEqual(len(losses.ends_by((("a",), ("a",), (("f", ("a",), "a"),) * 20, ()), 1)), 1)
        self.assertIsNone(losses.fewest_losses(long, ("a",)))
        self.assertEqual(losses.fewest_losses(long, ()), 0)


class KeepTest(unittest.TestCase):
    def test_hazards(self):
        for row in many_rows():
            self.assertEqual(losses.hazards(row), brute.hazards(row))

    def test_keeps(self):
        for row in many_rows():
            right = brute.end(row, ())
            by_two = all(brute.end(row, play) == right for play in brute.plays(row, 2))
            self.assertEqual(losses.keeps(row), by_two)
            self.assertEqual(losses.keeps(row), losses.hazards(row) == ())
            against = {play[0] for play in brute.plays(row, 1) if play and brute.end(row, play) != right}
            self.assertEqual(losses.losses_against(row), tuple(sorted(against)))
            self.assertEqual(losses.keeps(row), against == set())

    def test_is_hazard(self):
        for row in some_rows():
            right = brute.hazards(row)
            many = len(row[2])
            for thing in itertools.product(range(-1, many + 1), (*row[0], "x"), range(-1, many + 1)):
                self.assertEqual(losses.is_hazard(row, thing), thing in right)
        for hazard in losses.hazards(SWAP):
            for thing in STRANGE + with_strange_parts(hazard) + list_at_each_depth(hazard) + [(*hazard, 1), hazard[:2]]:
                self.assertFalse(losses.is_hazard(SWAP, thing))
        self.assertTrue(losses.is_hazard(SWAP, (0, "a", 1)))
        for thing in ((False, "a", 1), (0, "a", True), (0, ("a",), 1)):
            self.assertFalse(losses.is_hazard(SWAP, thing))

    def test_read_first_and_written(self):
        for row in many_rows():
            spots = brute.marked(row)
            counting = brute.counting(row)
            for at, (first, last) in enumerate(zip(spots, spots[1:])):
                reads = set()
                for cell in row[0]:
                    by = tuple(number for number in range(first, last) if number in counting
                               and cell in row[2][number][1] and not brute.writes_between(row, cell, first, number))
                    self.assertEqual(losses.who_reads_first(row, at, cell), by)
                    reads |= {cell} if by else set()
                self.assertEqual(losses.read_first(row, at), tuple(sorted(reads)))
                written = {move[2] for move in row[2][first:last]}
                self.assertEqual(losses.written_in(row, at), tuple(sorted(written)))
            for at in (-1, len(spots) - 1, 10 ** 9):
                self.assertEqual(refusal(losses.read_first, row, at), no_number(at))
                self.assertEqual(refusal(losses.written_in, row, at), no_number(at))
                self.assertEqual(refusal(losses.who_reads_first, row, at, "a"), no_number(at))
        self.assertEqual(refusal(losses.who_reads_first, SWAP, 7, "x"), no_cell("x"))
        self.assertEqual(refusal(losses.who_reads_first, SWAP, 0, "x"), no_cell("x"))


class PaperTest(unittest.TestCase):
    def test_one_of_both(self):
        for row in many_rows():
            paper = losses.keep_paper(row)
            against = losses.harm_paper(row)
            self.assertEqual((paper is None, against is None), (not brute.keeps(row), brute.keeps(row)))
            if paper is not None:
                self.assertTrue(losses.is_keep_paper(row, paper))
                spots = brute.marked(row)
                self.assertEqual([part[0] for part in paper], list(zip(spots, spots[1:])))
                for _, reads, writes in paper:
                    self.assertFalse(set(reads) & set(writes))
            else:
                self.assertTrue(losses.is_harm_paper(row, against))
                self.assertEqual(losses.harm_paper(row), against)

    def test_papers_for(self):
        paper = losses.keep_paper(SURE)
        self.assertEqual(paper, (((0, 1), ("a",), ("t",)), ((1, 2), ("b",), ("a",)), ((2, 3), ("t",), ("b",))))
        self.assertEqual(losses.keep_paper(STILL), ())
        self.assertTrue(losses.is_keep_paper(STILL, ()))
        for thing in STRANGE + with_strange_parts(paper) + list_at_each_depth(paper) + [paper[:2], (*paper, paper[2])]:
            self.assertFalse(losses.is_keep_paper(SURE, thing))
        first = ((False, True), ("a",), ("t",))
        self.assertFalse(losses.is_keep_paper(SURE, (first, *paper[1:])))
        self.assertFalse(losses.is_keep_paper(SURE, (((0, 1), ("a",), ("b",)), *paper[1:])))
        self.assertFalse(losses.is_keep_paper(SWAP, (((0, 3), ("a", "b"), ("a", "b", "t")),)))

    def test_papers_against(self):
        for row in some_rows():
            right = []
            for hazard in brute.hazards(row):
                ends = zip(row[1], brute.end(row, (hazard[2],)), brute.end(row, ()))
                found = [(hazard, cell) for cell, one, two in ends if one != two]
                self.assertNotEqual(found, [])
                right += found
            many = len(row[2])
            hazards = list(itertools.product(range(many), row[0], range(many)))
            for thing in itertools.product(hazards, (*row[0], "x")):
                self.assertEqual(losses.is_harm_paper(row, thing), thing in right)

    def test_no_papers_against(self):
        paper = ((0, "a", 1), "b")
        for thing in STRANGE + with_strange_parts(paper) + list_at_each_depth(paper) + [paper + ("b",), paper[:1]]:
            self.assertFalse(losses.is_harm_paper(SWAP, thing))
        self.assertFalse(losses.is_harm_paper(SWAP, ((0, "a", True), "b")))
        self.assertFalse(losses.is_harm_paper(SURE, paper))


class DifferTest(unittest.TestCase):
    def test_can_differ(self):
        for row in many_rows():
            right = brute.run(row, ())[1]
            for spot in brute.marked(row):
                found = set()
                for play in brute.plays(row, 2):
                    along = brute.run(row, play)[1]
                    at = 0 if spot == 0 else first_time(row, play, spot)
                    found |= {cell for cell in row[0] if along[at][cell] != right[spot][cell]}
                self.assertEqual(losses.can_differ(row, spot), tuple(sorted(found)))

    def test_what_differs_has_something_spoilt_in_it(self):
        for row in some_rows():
            for spot in brute.marked(row)[1:]:
                found = set()
                for play in brute.plays(row, 1):
                    held = brute.run(row, play)[1][first_time(row, play, spot)]
                    found |= {cell for cell in row[0] if term_losses(held[cell])}
                self.assertEqual(losses.can_differ(row, spot), tuple(sorted(found)))

    def test_no_marks(self):
        for spot in (-1, 1, 2, 4, 10 ** 9):
            self.assertEqual(refusal(losses.can_differ, SWAP, spot), no_number(spot))
        self.assertEqual(losses.can_differ(SWAP, 0), ())
        self.assertEqual(losses.can_differ(STILL, 0), ())

    def test_guarantee_of_rows_ahead(self):
        for row in some_rows():
            for spot in brute.marked(row):
                ahead = rows.cut(row, spot)[0]
                for cell in row[0]:
                    differs = cell in losses.can_differ(row, spot)
                    self.assertEqual(differs, not brute.keeps(rows.with_wanted(ahead, (cell,))))

    def test_loss_for(self):
        for row in many_rows():
            right = brute.run(row, ())[1][-1]
            for cell in row[0]:
                found = [number for number in range(len(row[2]))
                         if brute.run(row, (number,))[1][-1][cell] != right[cell]]
                self.assertEqual(losses.loss_for(row, cell), min(found, default=None))
        self.assertEqual(refusal(losses.loss_for, SWAP, "x"), no_cell("x"))

    def test_fewest_losses(self):
        for row in some_rows():
            right = brute.run(row, ())[1][-1]
            unlike = []
            for play in brute.short_plays(row, 3):
                held = brute.run(row, play)[1][-1]
                unlike.append((len(play), {cell for cell in row[0] if held[cell] != right[cell]}))
            for some in brute.subsets(row[0]):
                found = min([many for many, cells in unlike if set(some) <= cells], default=None)
                self.assertEqual(losses.fewest_losses(row, some), found)
        self.assertEqual(refusal(losses.fewest_losses, SWAP, ("a", "x", "y")), no_cell("x"))
        self.assertEqual(refusal(losses.fewest_losses, STILL, ("",)), no_cell(""))
        self.assertEqual(losses.fewest_losses(STILL, ()), 0)
        self.assertIsNone(losses.fewest_losses(STILL, ("a",)))

    def test_several_losses_needed(self):
        moves = (("f", ("a",), "a"), ("f", ("b",), "b"), ("f", ("c",), "c"))
        row = (("a", "b", "c"), ("a", "b", "c"), moves, (1, 2))
        self.assertEqual(losses.fewest_losses(row, ("a", "b", "c")), 3)
        self.assertEqual(losses.fewest_losses(row, ("a", "c")), 2)
        more = (("a", "b", "c", "d"), row[1], moves + (("f", ("d",), "d"),), (1, 2, 3))
        self.assertIsNone(losses.fewest_losses(more, ("a", "b", "c", "d")))

    def test_no_end_hides_a_dead_move(self):
        self.assertTrue(losses.keeps(IDLE))
        self.assertEqual(losses.can_differ(IDLE, 2), ("t",))
        self.assertEqual(losses.loss_for(IDLE, "t"), 1)
        self.assertIsNone(losses.loss_for(IDLE, "a"))


def first_time(row, play, spot):
    """How many moves are begun when the device comes to this mark for the first time."""
    lost = brute.lost_at(row, play)
    begun = brute.run(row, play)[0]
    return min(at + 1 for at, number in enumerate(begun) if number == spot - 1 and at not in lost)


if __name__ == "__main__":
    unittest.main()
