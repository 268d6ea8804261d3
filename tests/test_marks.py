"""Point 7: SPANS, WANTS, MARKINGS, HEIGHTS, BARS."""

import itertools
import unittest

from atanywrite import losses, marks
from tests import brute
from tests.common import FULL, ROW, SINGLE, STILL, STRANGE, UNFIT, list_at_each_depth, nested, no_number, refusal
from tests.common import with_strange_parts

CAN_NOT = ("CanNot", {})
MOVES = (("f", ("a",), "x"), ("g", ("z",), "b"), ("h", ("y",), "a"), ("i", ("b",), "c"), ("j", ("z",), "b"))
TALE = (("a", "b", "c", "x", "y", "z"), ("a", "b", "c", "x"), MOVES, ())
OWN = (("b",), ("b",), (("f", ("b",), "b"),), ())


def many_rows():
    """Small ROWS, each with one of the marks that there can be."""
    yield from itertools.islice(brute.small_rows(), 0, None, 5)
    yield from brute.long_rows(31)
    yield from [TALE, OWN, STILL, SINGLE, ROW, FULL]


def last_of(row):
    return len(row[2])


def span_holds(row, first, end):
    return brute.hazards_within(row, first, end) == []


def spans(row):
    return list(itertools.combinations(range(last_of(row) + 1), 2))


def meets(want, row_marks):
    low, high, near, far = want
    early = any(low <= mark <= high for mark in (0, *row_marks))
    return not early or any(near <= mark <= far for mark in row_marks)


def wants_of(row):
    found = set()
    for number in brute.counting(row):
        for cell in row[2][number][1]:
            behind = brute.writes_between(row, cell, number, last_of(row))
            ahead = brute.writes_between(row, cell, 0, number)
            if behind:
                found.add((ahead[-1] + 1 if ahead else 0, number, number + 1, behind[0]))
    return tuple(sorted(found))


def are_heights(row, numbers):
    if numbers[0] != 0 or min(numbers) < 0:
        return False
    return all(numbers[end] <= numbers[first] + 1 for first, end in spans(row) if span_holds(row, first, end))


def is_bar(row, spots):
    if 0 not in spots or last_of(row) in spots:
        return False
    return all(end in spots for first, end in spans(row) if first in spots and span_holds(row, first, end))


class SpanTest(unittest.TestCase):
    def test_spans(self):
        for row in many_rows():
            far = []
            for first in range(last_of(row)):
                ends = [end for end in range(first + 1, last_of(row) + 1) if span_holds(row, first, end)]
                far.append(max(ends, default=first))
                for end in range(first + 1, last_of(row) + 1):
                    self.assertEqual(marks.span_holds(row, first, end), end in ends)
            self.assertEqual(marks.far_ends(row), tuple(far))

    def test_errors(self):
        for wrong in (-1, 6, 10 ** 9):
            self.assertEqual(refusal(marks.span_holds, TALE, wrong, 5), no_number(wrong))
            self.assertEqual(refusal(marks.span_holds, TALE, 0, wrong), no_number(wrong))
            self.assertEqual(refusal(marks.span_holds, TALE, wrong, wrong + 100), no_number(wrong))
        for first, end in ((0, 0), (5, 5), (3, 2), (5, 0)):
            self.assertEqual(refusal(marks.span_holds, TALE, first, end), UNFIT)
        self.assertEqual(refusal(marks.span_holds, STILL, 0, 0), UNFIT)
        self.assertEqual(marks.far_ends(STILL), ())


class WantTest(unittest.TestCase):
    def test_wants(self):
        for row in many_rows():
            wanted = wants_of(row)
            self.assertEqual(marks.wants(row), wanted)
            for some in brute.subsets(brute.inner_spots(row)):
                left = tuple(want for want in wanted if not meets(want, some))
                self.assertEqual(marks.unmet(row, some), left)
                self.assertEqual(marks.are_met(row, some), left == ())
                self.assertEqual(left == (), brute.keeps(row[:3] + (some,)))

    def test_errors(self):
        for some, wrong in (((0,), 0), ((5,), 5), ((-1, 7), -1), ((1, 2, 9, 10), 9), ((0, 1), 0)):
            self.assertEqual(refusal(marks.are_met, TALE, some), no_number(wrong))
            self.assertEqual(refusal(marks.unmet, TALE, some), no_number(wrong))
        for row in (STILL, SINGLE):
            for number in (0, 1):
                self.assertEqual(refusal(marks.are_met, row, (number,)), no_number(number))
        self.assertTrue(marks.are_met(STILL, ()))
        self.assertEqual(marks.unmet(STILL, []), ())


class MarkingTest(unittest.TestCase):
    def test_markings(self):
        for row in many_rows():
            right = brute.markings(row)
            told = marks.all_markings(row)
            self.assertEqual(told, right)
            self.assertEqual(marks.how_many_markings(row), len(right))
            told.append(())
            self.assertEqual(marks.all_markings(row), right)
            for some in brute.subsets(brute.inner_spots(row)):
                self.assertEqual(marks.is_marking(row, some), some in right)

    def test_fewest(self):
        for row in many_rows():
            right = brute.markings(row)
            if not right:
                for function in (marks.fewest_marks, marks.fewest_marking, marks.from_end, marks.heights):
                    self.assertIsNone(function(row))
                continue
            fewest = min(len(one) for one in right)
            self.assertEqual(marks.fewest_marks(row), fewest)
            self.assertEqual(marks.fewest_marking(row), min(one for one in right if len(one) == fewest))
            self.assertEqual(marks.from_end(row), made_from_end(row))
            self.assertIn(marks.from_end(row), right)
            self.assertEqual(len(marks.from_end(row)), fewest)

    def test_no_markings(self):
        self.assertEqual((marks.all_markings(OWN), marks.how_many_markings(OWN)), ([], 0))
        self.assertEqual((marks.all_markings(STILL), marks.how_many_markings(STILL)), ([()], 1))
        self.assertEqual((marks.fewest_marks(STILL), marks.fewest_marking(STILL), marks.from_end(STILL)), (0, (), ()))
        wrong = [(0,), (0, 1), (5,), (1, 1), (2, 1), (True,), (1, True), ("1",), [1], [1, 2], (1, [2]), nested(30), 1, (1, 5)]
        for thing in STRANGE + wrong + with_strange_parts((1, 2)):
            self.assertEqual(marks.is_marking(TALE, thing), thing == (1, 2, 3, 4))
        self.assertTrue(marks.is_marking(TALE, (1,)))
        self.assertTrue(marks.is_marking(STILL, ()))
        self.assertFalse(marks.is_marking(STILL, (0,)))
        self.assertFalse(marks.is_marking(STILL, []))

    def test_in_all_and_none(self):
        for row in many_rows():
            right = brute.markings(row)
            if not right:
                self.assertEqual(refusal(marks.in_all, row), CAN_NOT)
                self.assertEqual(refusal(marks.in_none, row), CAN_NOT)
                continue
            inner = brute.inner_spots(row)
            self.assertEqual(marks.in_all(row), tuple(spot for spot in inner if all(spot in one for one in right)))
            self.assertEqual(marks.in_none(row), tuple(spot for spot in inner if not any(spot in one for one in right)))

    def test_cheapest(self):
        for row in many_rows():
            many = max(0, last_of(row) - 1)
            right = brute.markings(row)
            for prices in ((0,) * many, tuple(range(many)), (7, 0, 3, 10 ** 9, 1)[:many], (1,) * many):
                if not right:
                    self.assertEqual(refusal(marks.cheapest_marking, row, prices), CAN_NOT)
                    continue
                costs = [(sum(prices[mark - 1] for mark in one), one) for one in right]
                self.assertEqual(marks.cheapest_marking(row, prices), min(costs))
            self.assertEqual(refusal(marks.cheapest_marking, row, (1,) * (many + 1)), UNFIT)
            if many:
                self.assertEqual(refusal(marks.cheapest_marking, row, (1,) * (many - 1)), UNFIT)
        self.assertEqual(marks.cheapest_marking(STILL, ()), (0, ()))
        self.assertEqual(refusal(marks.cheapest_marking, STILL, (1,)), UNFIT)
        self.assertEqual(refusal(marks.cheapest_marking, OWN, (1,)), UNFIT)

    def test_marks_of_the_row(self):
        for row in many_rows():
            own = row[3]
            with_marks = {some: brute.keeps(row[:3] + (some,)) for some in brute.subsets(brute.inner_spots(row))}
            idle = tuple(mark for mark in own if with_marks[tuple(other for other in own if other != mark)])
            free = [spot for spot in brute.inner_spots(row) if spot not in own]
            helping = tuple(spot for spot in free if with_marks[tuple(sorted([spot, *own]))])
            spoiling = tuple(spot for spot in free if spot not in helping) if with_marks[own] else ()
            self.assertEqual(marks.idle_marks(row), idle)
            self.assertEqual(marks.helping_marks(row), helping)
            self.assertEqual(marks.spoiling_marks(row), spoiling)
            more = [(len(some), some) for some, right in with_marks.items() if right and set(own) <= set(some)]
            self.assertEqual(marks.least_more(row), min(more)[1] if more else None)

    def test_a_mark_that_can_not_stay(self):
        self.assertIsNone(marks.least_more(OWN))
        moves = (("f", ("a",), "b"), ("g", ("b",), "b"))
        row = (("a", "b"), ("b",), moves, ())
        self.assertTrue(losses.keeps(row))
        self.assertEqual(marks.least_more(row), ())
        self.assertIsNone(marks.least_more(row[:3] + ((1,),)))
        self.assertEqual(marks.spoiling_marks(row), (1,))
        self.assertEqual(marks.idle_marks(row[:3] + ((1,),)), (1,))


def made_from_end(row):
    """The MARKING that is made from the end; there is one."""
    found = []
    end = last_of(row)
    while end > 0:
        end = min(first for first in range(end) if span_holds(row, first, end))
        found.append(end)
    return tuple(sorted(found[:-1]))


class PaperTest(unittest.TestCase):
    def test_heights_or_a_bar(self):
        for row in many_rows():
            heights = marks.heights(row)
            bar = marks.bar(row)
            self.assertEqual((heights is None, bar is None), (not brute.markings(row), bool(brute.markings(row))))
            if heights is None:
                self.assertTrue(is_bar(row, bar))
                self.assertTrue(marks.is_bar(row, bar))
            else:
                self.assertTrue(are_heights(row, heights))
                self.assertTrue(marks.is_heights(row, heights))
                self.assertEqual(heights[-1], marks.fewest_marks(row) + 1 if row[2] else 0)
            self.assertEqual((marks.heights(row), marks.bar(row)), (heights, bar))

    def test_all_heights_and_bars(self):
        rows = [row for row in many_rows() if last_of(row) <= 3]
        for row in rows[::5] + [OWN, STILL, SINGLE, ROW]:
            last = last_of(row)
            for thing in itertools.product(range(-1, 4), repeat=last + 1):
                self.assertEqual(marks.is_heights(row, thing), are_heights(row, thing))
                if last:
                    fewest = marks.fewest_marks(row)
                    self.assertFalse(are_heights(row, thing) and fewest is not None and fewest < thing[-1] - 1)
            for thing in brute.subsets(range(last + 1)):
                self.assertEqual(marks.is_bar(row, thing), is_bar(row, thing))

    def test_no_heights(self):
        right = (0, 1, 1, 2, 2, 2)
        self.assertTrue(marks.is_heights(TALE, right))
        self.assertTrue(marks.is_heights(TALE, (0,) * 6))
        for thing in STRANGE + with_strange_parts(right) + [right[:5], (*right, 2), list(right), (1,) * 6, nested(30)]:
            self.assertFalse(marks.is_heights(TALE, thing))
        self.assertFalse(marks.is_heights(TALE, (False, 1, 1, 2, 2, 2)))
        self.assertFalse(marks.is_heights(TALE, (0, True, 1, 2, 2, 2)))
        self.assertFalse(marks.is_heights(TALE, (0, -1, 0, 0, 0, 0)))
        self.assertEqual([marks.is_heights(STILL, thing) for thing in ((0,), (1,), (), (0, 0))], [True] + [False] * 3)

    def test_no_bars(self):
        moves = (("f", (), "a"), ("f", ("b",), "b"), ("g", ("b",), "b"))
        row = (("a", "b"), ("a", "b"), moves, ())
        bars = [thing for thing in brute.subsets(range(4)) if is_bar(row, thing)]
        self.assertEqual(bars, [(0, 1), (0, 1, 2)])
        self.assertIn(marks.bar(row), bars)
        for thing in bars:
            self.assertTrue(marks.is_bar(row, thing))
            for other in with_strange_parts(thing) + list_at_each_depth(thing):
                self.assertFalse(marks.is_bar(row, other))
        for thing in STRANGE + [(False, 1), (0, True), (1, 0), (0, 0, 1), (0, 1, 3), (-1, 0, 1), (0, 1, 4), nested(30)]:
            self.assertFalse(marks.is_bar(row, thing))
        for thing in ((), (0,)):
            self.assertFalse(marks.is_bar(STILL, thing))
        self.assertIsNone(marks.bar(STILL))


if __name__ == "__main__":
    unittest.main()
