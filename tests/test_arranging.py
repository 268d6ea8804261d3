"""Point 9: cells, LYINGS, ROUNDS, COPYINGS."""

import itertools
import unittest

from atanywrite import arranging
from tests.common import CHANGE, STRANGE, list_at_each_depth, nested, refusal, with_strange_parts

CAN_NOT = ("CanNot", {})
TWO = (("b", "d"), (("f", ()), ("g", ())))
THREE = (("b", "d", "f"), (("f", ()), ("g", ()), ("h", ())))
# Spare cells ahead of, between and behind the blocks.
SPARES = [("a",), ("c",), ("x",), ("a", "c"), ("c", "x"), ("a", "x"), ("a", "c", "x"), ("x", "y", "z"), ("aa", "bb", "e")]


def cells_of(change, spares):
    return tuple(sorted([*change[0], *spares]))


def lyings(change, spares):
    cells = cells_of(change, spares)
    return sorted(set(itertools.permutations([*change[0], *[""] * len(spares)], len(cells))))


def rounds(change, spares, lying):
    """All ROUNDS, from all tuples of blocks: what lies in a cell of a ROUND is a block, and so is the next cell."""
    lies = dict(zip(cells_of(change, spares), lying))
    found = []
    for many in range(2, len(change[0]) + 1):
        for one in itertools.permutations(change[0], many):
            if one[0] == min(one) and all(lies[cell] == later for cell, later in zip(one, one[1:] + one[:1])):
                found.append(one)
    return sorted(found)


def after(change, spares, lying, copying):
    """The LYING behind the pairs; None if they are no COPYING."""
    lies = dict(zip(cells_of(change, spares), lying))
    for one, other in copying:
        if lies.get(one, "") == "" or lies.get(other) != "":
            return None
        lies[one], lies[other] = "", lies[one]
    return tuple(lies[cell] for cell in cells_of(change, spares))


def fewest(change, spares):
    """For each LYING the fewest pairs to the arranged one, found from there on backwards, step by step."""
    cells = cells_of(change, spares)
    goal = tuple(cell if cell in change[0] else "" for cell in cells)
    many = {goal: 0}
    level = [goal]
    while level:
        longer = []
        for lying in level:
            for pair in itertools.permutations(cells, 2):
                ahead = after(change, spares, lying, [pair])
                if ahead is not None and ahead not in many:
                    many[ahead] = many[lying] + 1
                    longer.append(ahead)
        level = longer
    return many


def cases():
    for change in (TWO, THREE):
        for spares in SPARES:
            yield change, spares
    yield (("b",), (("f", ("b",)),)), ("a",)
    yield (("b",), (("f", ("b",)),)), ("x", "y")


class ArrangingTest(unittest.TestCase):
    def test_cells(self):
        for change, spares in cases():
            self.assertEqual(arranging.cells_of(change, spares), cells_of(change, spares))
        self.assertEqual(arranging.cells_of(CHANGE, ["aa", "x"]), ("a", "aa", "b", "c", "d", "x"))

    def test_lyings(self):
        for change, spares in cases():
            right = lyings(change, spares)
            for lying in right[:40]:
                self.assertTrue(arranging.is_lying(change, spares, lying))
            if len(right[0]) < 5:
                for thing in itertools.product([*change[0], "", "a", "z"], repeat=len(right[0])):
                    self.assertEqual(arranging.is_lying(change, spares, thing), thing in right)

    def test_no_lyings(self):
        right = ("d", "", "b")
        self.assertTrue(arranging.is_lying(TWO, ("x",), right))
        wrong = [("d", "b"), ("d", "", "b", ""), ("d", "", ""), ("d", "d", "b"), ("", "", ""), ["d", "", "b"], ("d", "x", "b")]
        for thing in STRANGE + wrong + with_strange_parts(right) + list_at_each_depth(right) + [nested(30)]:
            self.assertFalse(arranging.is_lying(TWO, ("x",), thing))

    def test_rounds(self):
        for change, spares in cases():
            for lying in lyings(change, spares):
                told = arranging.rounds_in(change, spares, lying)
                self.assertEqual(told, rounds(change, spares, lying))
                told.append(())
                self.assertEqual(arranging.rounds_in(change, spares, lying), told[:-1])
        six = (tuple("abcdef"), (("f", ()),) * 6)
        self.assertEqual(arranging.rounds_in(six, ("x",), (*"cfaebd", "")), [("a", "c"), ("b", "f", "d", "e")])
        self.assertEqual(arranging.rounds_in(six, ("x",), (*"cfaeb", "", "d")), [("a", "c")])

    def test_fewest_copies(self):
        for change, spares in cases():
            many = fewest(change, spares)
            cells = cells_of(change, spares)
            for lying in lyings(change, spares):
                self.assertEqual(arranging.fewest_copies(change, spares, lying), many[lying])
                told = arranging.copies_for(change, spares, lying)
                self.assertEqual(len(told), many[lying])
                self.assertTrue(arranging.is_arranging(change, spares, lying, told))
                goal = tuple(cell if cell in change[0] else "" for cell in cells)
                self.assertEqual(arranging.lying_after(change, spares, lying, told), goal)
                self.assertEqual(arranging.copies_for(change, spares, lying), told)
                elsewhere = [cell for cell, block in zip(cells, lying) if block not in (cell, "")]
                self.assertEqual(many[lying], len(elsewhere) + len(rounds(change, spares, lying)))

    def test_copyings(self):
        for change, spares in ((TWO, ("c",)), (TWO, ("a", "x"))):
            cells = cells_of(change, spares)
            goal = tuple(cell if cell in change[0] else "" for cell in cells)
            pairs = list(itertools.product([*cells, "z", ""], repeat=2))
            for lying in lyings(change, spares)[::2]:
                for many in range(3):
                    for copying in itertools.product(pairs, repeat=many):
                        behind = after(change, spares, lying, copying)
                        is_right = behind == goal
                        self.assertEqual(arranging.is_arranging(change, spares, lying, copying), is_right)
                        if behind is None:
                            self.assertEqual(refusal(arranging.lying_after, change, spares, lying, copying), CAN_NOT)
                        else:
                            self.assertEqual(arranging.lying_after(change, spares, lying, copying), behind)

    def test_long_ones(self):
        lying = ("b", "d", "")
        there = (("b", "x"), ("x", "b")) * 100
        self.assertTrue(arranging.is_arranging(TWO, ("x",), lying, there))
        self.assertFalse(arranging.is_arranging(TWO, ("x",), lying, there[1:]))
        self.assertFalse(arranging.is_arranging(TWO, ("x",), lying, there[:-1]))

    def test_no_copyings(self):
        lying = ("", "b", "d")
        right = (("d", "b"), ("x", "d"))
        self.assertTrue(arranging.is_arranging(TWO, ("x",), lying, right))
        wrong = [right[:1], right[1:], right[::-1], right + right, (("d", "b", "x"), ("x", "d")), ("db", "xd"), [], [("d", "b")]]
        for thing in STRANGE + wrong + with_strange_parts(right) + list_at_each_depth(right) + [nested(30)]:
            self.assertFalse(arranging.is_arranging(TWO, ("x",), lying, thing))
        for thing in STRANGE + [[], [()]]:
            self.assertEqual(arranging.is_arranging(TWO, ("x",), ("b", "d", ""), thing), thing == () and thing != [])


if __name__ == "__main__":
    unittest.main()
