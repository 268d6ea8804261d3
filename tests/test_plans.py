"""Point 9: GOAL, PLANS, by which ORDER they go, the shortest ones, and what is saved."""

import itertools
import unittest

from atanywrite import orders, plans
from tests import brute
from tests.common import CHANGE, FULL, ROW, STILL, STRANGE, UNFIT, list_at_each_depth, listed, nested, refusal, with_strange_parts

CAN_NOT = ("CanNot", {})
SWAP = (("a", "b"), (("f", ("a", "b")), ("g", ("b",))))
MOVES = (("f", ("a", "b"), "x"), ("g", ("b",), "a"), ("copy", ("a",), "b"), ("copy", ("x",), "a"))
PLAN = (("a", "b", "x"), ("a", "b"), MOVES, (1, 2, 3))
SPREAD = (("b", "d", "f"), (("f", ("d", "f")), ("copy", ("b",)), ("f", ("b", "d"))))
KEPT = (("a", "b", "c"), (("copy", ("a",)), ("copy", ("b",)), ("copy", ("c",))))
SIX = (
    ("a", "b", "c", "d", "e", "f"),
    (("f", ("b", "c")), ("f", ("c", "d")), ("g", ()), ("copy", ("a",)), ("h", ("e", "f", "a")), ("copy", ("e",))),
)
TURN = (tuple("abcdef"), tuple(("copy", (block,)) for block in "bcafde"))


def cases():
    """CHANGES with spare cells ahead of, between and behind their blocks."""
    for change in itertools.islice(brute.small_changes(), 0, None, 2):
        yield change, ("x",)
    for change in itertools.islice(brute.small_changes(), 1, None, 6):
        yield change, ("aa", "x")
        yield change, ("aa", "bb", "x")
    for spares in (("a",), ("c",), ("x",), ("a", "e"), ("c", "x", "y"), ("a", "aa", "ab")):
        yield SPREAD, spares
    yield CHANGE, ("x",)
    yield CHANGE, ("aa", "x")


def cells_of(change, spares):
    return tuple(sorted([*change[0], *spares]))


def goal_of(change):
    return tuple(brute.term_of(change, block) for block in change[0])


def faults_of(change, spares, row):
    if row[0] != cells_of(change, spares) or row[1] != change[0]:
        return ("cells",)
    along = brute.run(row, ())[1]
    right = {*goal_of(change), *[("old", block) for block in change[0]]}
    faults = [("goal", brute.end(row, ()) == goal_of(change)), ("keeps", brute.keeps(row))]
    faults.append(("way", all(held[move[2]] in right for held, move in zip(along[1:], row[2]))))
    return tuple(word for word, is_so in faults if not is_so)


def made_last(change, row):
    """The TERMS of made blocks as the PLAN last writes them by their functions."""
    along = brute.run(row, ())[1]
    last = {}
    for number, move in enumerate(row[2]):
        if move[0] != "copy":
            last[along[number + 1][move[2]]] = number
    return sorted(last, key=lambda term: last[term])


def first_in(change, order):
    made = [block for block in order if change[1][change[0].index(block)][0] != "copy"]
    return list(dict.fromkeys(brute.term_of(change, block) for block in made))


class GoalTest(unittest.TestCase):
    def test_goal(self):
        for change in brute.small_changes():
            self.assertEqual(plans.goal_of(change), goal_of(change))
            recipes = dict(zip(*change))
            stays = tuple(block for block in change[0] if recipes[block] == ("copy", (block,)))
            self.assertEqual(plans.stays(change), stays)
            made = tuple(block for block in change[0] if recipes[block][0] != "copy")
            self.assertEqual(plans.made_blocks(change), made)
            for block in change[0]:
                minded = [read for read in recipes[block][1] if read not in stays] if block in made else []
                self.assertEqual(plans.minds(change, block), tuple(sorted(minded)))
        for name in ("x", "", "A"):
            self.assertEqual(refusal(plans.minds, SWAP, name), ("NoBlock", {"name": name}))

    def test_saved(self):
        for change in [*brute.small_changes(), CHANGE, SIX, TURN]:
            minds = {block: plans.minds(change, block) for block in change[0]}
            right = []
            for some in brute.subsets(change[0]):
                left = [block for block in change[0] if block not in some]
                rounds = [row for many in range(1, len(left) + 1) for row in itertools.permutations(left, many)
                          if all(later in minds[block] for block, later in zip(row, row[1:] + row[:1]))]
                self.assertEqual(plans.is_saved_enough(change, some), rounds == [])
                right += [] if rounds else [some]
            self.assertEqual(plans.least_saved(change), min(right, key=lambda some: (len(some), some)))


class PlanTest(unittest.TestCase):
    def test_plan_by(self):
        for change, spares in cases():
            for order in itertools.permutations(change[0]):
                if brute.need_of(change, order) > len(spares):
                    self.assertEqual(refusal(plans.plan_by, change, spares, order), CAN_NOT)
                    continue
                plan = plans.plan_by(change, spares, order)
                self.assertEqual(faults_of(change, spares, plan), ())
                self.assertTrue(plans.is_plan(change, spares, plan))
                self.assertEqual(made_last(change, plan), first_in(change, order))
                self.assertTrue(plans.goes_by(change, spares, plan, order))
                self.assertEqual(plans.plan_by(change, spares, order), plan)

    def test_goes_by(self):
        for change, spares in cases():
            plan = plans.plan_for(change, spares)
            self.assertEqual(plan is None, brute.orders_with(change, len(spares)) == [])
            self.assertEqual(plans.can_do(change, spares), plan is not None)
            if plan is None:
                continue
            self.assertEqual(faults_of(change, spares, plan), ())
            last = made_last(change, plan)
            for order in itertools.permutations(change[0]):
                self.assertEqual(plans.goes_by(change, spares, plan, order), last == first_in(change, order))
            told = plans.order_of_plan(change, spares, plan)
            made = plans.made_blocks(change)
            expected = sorted(made, key=lambda block: (last.index(brute.term_of(change, block)), block))
            self.assertEqual(told, (*expected, *[block for block in change[0] if block not in made]))
            self.assertTrue(orders.is_right(change, told, len(spares)))
            self.assertTrue(plans.goes_by(change, spares, plan, told))

    def test_orders_of_longer_plans(self):
        twice = (("g", ("b",), "x"), ("copy", ("b",), "x"), *MOVES)
        plan = (*PLAN[:2], twice, (1, 2, 3, 4, 5))
        self.assertTrue(plans.is_plan(SWAP, ("x",), plan))
        self.assertEqual(plans.order_of_plan(SWAP, ("x",), plan), ("a", "b"))
        self.assertTrue(plans.goes_by(SWAP, ("x",), plan, ("a", "b")))
        self.assertFalse(plans.goes_by(SWAP, ("x",), plan, ("b", "a")))

    def test_six_blocks(self):
        for change in (SIX, TURN):
            for spares in (("x",), ("aa", "cc"), ("aa", "x", "y")):
                order = orders.best_order(change)
                self.assertEqual(orders.spares_for(change, order), 1)
                for one in (order, tuple(reversed(order)), change[0]):
                    if orders.is_right(change, one, len(spares)):
                        plan = plans.plan_by(change, spares, one)
                        self.assertEqual(faults_of(change, spares, plan), ())
                        self.assertLessEqual(len(plan[2]), 18)
        self.assertEqual(len(plans.plan_for(TURN, ("x",))[2]), 8)

    def test_made_where_it_belongs(self):
        change = (("a", "b", "c"), (("f", ("b",)), ("g", ("c",)), ("copy", ("c",))))
        moves = (("f", ("b",), "a"), ("g", ("c",), "b"))
        for own in (change, listed(change)):
            self.assertEqual(plans.plan_for(own, ("x",)), (("a", "b", "c", "x"), ("a", "b", "c"), moves, (1,)))
        # Of b first, what b held is still needed; nobody reads a.
        self.assertEqual(plans.plan_by(change, ("x",), ("b", "a", "c"))[2][0], ("g", ("c",), "a"))

    def test_nothing_to_do(self):
        self.assertEqual(plans.plan_for(KEPT, ("x",)), (("a", "b", "c", "x"), ("a", "b", "c"), (), ()))
        self.assertEqual(plans.shortest_plan(KEPT, ("x",))[2], ())
        self.assertEqual((plans.fewest_moves_of(KEPT, ("x",)), plans.least_saved(KEPT)), (0, ()))
        self.assertEqual(plans.order_of_plan(KEPT, ("x",), plans.plan_for(KEPT, ("x",))), ("a", "b", "c"))

    def test_faults(self):
        seen = set()
        names = [("copy", ("a",)), ("copy", ("b",)), ("copy", ("x",)), ("f", ("a", "b")), ("g", ("b",)), ("g", ("a",))]
        for many in range(4):
            for at, calls in enumerate(itertools.product(names, repeat=many)):
                for ends in itertools.product("abx", repeat=many):
                    moves = tuple((*call, end) for call, end in zip(calls, ends))
                    if (at + sum(map(ord, ends))) % 5 ** max(0, many - 1):
                        continue
                    for marks in (tuple(range(1, many)), ()):
                        row = (("a", "b", "x"), ("a", "b"), moves, marks)
                        faults = faults_of(SWAP, ("x",), row)
                        seen.add(faults)
                        self.assertEqual(plans.plan_faults(SWAP, ("x",), row), faults)
                        self.assertEqual(plans.is_plan(SWAP, ("x",), row), faults == ())
        self.assertLessEqual({("goal",), ("goal", "keeps"), ("goal", "way"), ("goal", "keeps", "way")}, seen)
        self.assertEqual(plans.plan_faults(SWAP, ("x",), PLAN[:3] + ((),)), ("keeps",))
        way = (*PLAN[:2], (("h", (), "x"), *MOVES), (1, 2, 3, 4))
        self.assertEqual(plans.plan_faults(SWAP, ("x",), way), ("way",))
        self.assertEqual(plans.plan_faults(SWAP, ("x",), way[:3] + ((),)), ("keeps", "way"))
        spare = (*PLAN[:2], (("copy", ("x",), "x"), *MOVES), (1, 2, 3, 4))
        self.assertEqual(plans.plan_faults(SWAP, ("x",), spare), ("way",))

    def test_other_cells(self):
        other = (PLAN[0], ("a", "b", "x"), *PLAN[2:])
        for row in (ROW, FULL, STILL, other, (PLAN[0], ("a",), *PLAN[2:])):
            self.assertEqual(plans.plan_faults(SWAP, ("x",), row), ("cells",))
            self.assertEqual(refusal(plans.goes_by, SWAP, ("x",), row, ("a", "b")), UNFIT)
            self.assertEqual(refusal(plans.order_of_plan, SWAP, ("x",), row), UNFIT)
        self.assertEqual(plans.plan_faults(SWAP, ("y",), PLAN), ("cells",))
        self.assertEqual(plans.plan_faults(SWAP, ("x", "y"), PLAN), ("cells",))
        self.assertEqual(refusal(plans.goes_by, SWAP, ("x",), PLAN[:3] + ((),), ("a", "b")), UNFIT)
        self.assertEqual(refusal(plans.order_of_plan, SWAP, ("x",), PLAN[:3] + ((),)), UNFIT)

    def test_no_plans(self):
        self.assertTrue(plans.is_plan(SWAP, ("x",), PLAN))
        for thing in STRANGE + with_strange_parts(PLAN) + list_at_each_depth(PLAN) + [nested(30), PLAN[:3], (*PLAN, ())]:
            self.assertFalse(plans.is_plan(SWAP, ("x",), thing))
            self.assertFalse(plans.is_shortest(SWAP, ("x",), thing))
        self.assertFalse(plans.is_plan(SWAP, ("x",), PLAN[:3] + ((True, 2, 3),)))


class ShortestTest(unittest.TestCase):
    def test_shortest(self):
        for change, spares in cases():
            if len(change[0]) > 3 or len(spares) > 2:
                continue
            plan = plans.shortest_plan(change, spares)
            many = plans.fewest_moves_of(change, spares)
            if plan is None:
                self.assertIsNone(many)
                self.assertFalse(plans.can_do(change, spares))
                continue
            self.assertTrue(plans.can_do(change, spares))
            self.assertEqual(faults_of(change, spares, plan), ())
            self.assertEqual(len(plan[2]), many)
            self.assertTrue(plans.is_shortest(change, spares, plan))
            self.assertLessEqual(many, len(plans.plan_for(change, spares)[2]))
            self.assertEqual(plans.shortest_plan(change, spares), plan)

    def test_fewest_by_what_is_saved(self):
        for change in brute.small_changes():
            made = [recipe for recipe in change[1] if recipe[0] != "copy"]
            copies = [block for block, recipe in zip(*change) if recipe[0] == "copy"]
            if len(set(made)) < len(made) or any(block not in plans.stays(change) for block in copies):
                continue
            saved = len(plans.least_saved(change))
            least = len(made) + saved
            for spares in (("x",), ("x", "y")):
                many = plans.fewest_moves_of(change, spares)
                if many is not None:
                    self.assertGreaterEqual(many, least)
                if saved <= len(spares):
                    self.assertEqual(many, least)

    def test_none_is_shorter(self):
        """All ROWS, with all marks, of fewer MOVES; also those that read what they write."""
        changes = list(brute.small_changes())
        for change in [SWAP] + changes[:10:2] + changes[10:110:4]:
            many = plans.fewest_moves_of(change, ("x",))
            calls = {("copy", 1), *[(name, len(reads)) for name, reads in change[1]]}
            cells = cells_of(change, ("x",))
            moves = [(name, reads, cell) for name, length in sorted(calls)
                     for reads in itertools.permutations(cells, length) for cell in cells]
            for fewer in range(3 if many is None else many):
                for row in self.rows_to_goal(change, cells, moves, min(fewer, 3)):
                    for marks in brute.subsets(range(1, len(row))):
                        self.assertNotEqual(faults_of(change, ("x",), (cells, change[0], row, marks)), ())

    def rows_to_goal(self, change, cells, moves, many):
        """All so many of these moves behind which each block holds what it ought to."""
        goal = goal_of(change)
        for row in itertools.product(moves, repeat=many):
            if brute.end((cells, change[0], row, ()), ()) == goal:
                yield row

    def test_is_shortest(self):
        self.assertEqual(plans.fewest_moves_of(SWAP, ("x",)), 4)
        self.assertTrue(plans.is_shortest(SWAP, ("x",), PLAN))
        longer = (*PLAN[:2], (("copy", ("a",), "x"), *MOVES), (1, 2, 3, 4))
        self.assertTrue(plans.is_plan(SWAP, ("x",), longer))
        self.assertFalse(plans.is_shortest(SWAP, ("x",), longer))
        self.assertFalse(plans.is_shortest(SWAP, ("x",), PLAN[:3] + ((),)))
        full = (("a", "b", "c"), (("f", ("a", "b", "c")), ("g", ("a", "b", "c")), ("h", ("a", "b", "c"))))
        self.assertIsNone(plans.fewest_moves_of(full, ("x",)))
        self.assertIsNone(plans.shortest_plan(full, ("x",)))
        self.assertFalse(plans.is_shortest(full, ("x",), PLAN))
        self.assertIsNone(plans.fewest_moves_of(full, ("x", "y")))
        self.assertTrue(plans.can_do(full, ("x", "y", "z")))


if __name__ == "__main__":
    unittest.main()
