"""Point 8: what is held, what is let next, ORDERS, FENCES."""

import itertools
import unittest

from atanywrite import orders
from tests import brute
from tests.common import CHANGE, STRANGE, UNFIT, known, list_at_each_depth, nested, no_number, refusal
from tests.common import with_strange_parts

RING = (("p", "q", "r"), (("f", ("p", "q")), ("f", ("q", "r")), ("f", ("r", "p"))))
TWIN = (("a", "b"), (("f", ("a", "b")), ("f", ("a", "b"))))
ONE = (("a",), (("f", ("a",)),))
BARE = (("a", "b", "c"), (("f", ()), ("f", ()), ("g", ())))
SIX = (
    ("a", "b", "c", "d", "e", "f"),
    (("f", ("b", "c")), ("f", ("c", "d")), ("g", ()), ("copy", ("a",)), ("h", ("e", "f", "a")), ("copy", ("e",))),
)


def no_block(name):
    return ("NoBlock", {"name": name})


def many_changes():
    yield from brute.small_changes()
    yield from [CHANGE, RING, TWIN, ONE, BARE]


def some_changes():
    yield from itertools.islice(brute.small_changes(), 0, None, 9)
    yield from [CHANGE, RING, TWIN, ONE, BARE]


def reads_of(change, block):
    return change[1][change[0].index(block)][1]


class HeldTest(unittest.TestCase):
    def test_recipes(self):
        for change in [*many_changes(), SIX]:
            for block in change[0]:
                self.assertEqual(orders.reads_of(change, block), tuple(sorted(reads_of(change, block))))
                readers = tuple(other for other in change[0] if block in reads_of(change, other))
                self.assertEqual(orders.readers_of(change, block), readers)
                self.assertEqual(orders.term_of(change, block), brute.term_of(change, block))
        turned = (("a", "b"), (("f", ("b", "a")), ("copy", ("a",))))
        self.assertEqual(orders.reads_of(turned, "a"), ("a", "b"))
        self.assertEqual(orders.term_of(turned, "a"), ("f", (("old", "b"), ("old", "a"))))
        self.assertEqual(orders.term_of(turned, "b"), ("old", "a"))

    def test_held(self):
        for change in [*many_changes(), SIX]:
            for some in brute.subsets(change[0]):
                left = [block for block in change[0] if block not in some]
                needed = {read for block in left for read in reads_of(change, block)}
                self.assertEqual(orders.needed_behind(change, some), tuple(sorted(needed)))
                for block in left:
                    later = {read for other in left if other != block for read in reads_of(change, other)}
                    self.assertEqual(orders.let_go(change, some, block), tuple(sorted(needed - later)))
                    held = tuple(sorted(brute.held(change, some, block)))
                    self.assertEqual(orders.held_at(change, some, block), held)
                for block in some:
                    self.assertEqual(refusal(orders.let_go, change, some, block), UNFIT)
                    self.assertEqual(refusal(orders.held_at, change, some, block), UNFIT)
                for spares in (1, 2, 3, 10):
                    most = len(change[0]) + spares
                    let = tuple(block for block in left if len(brute.held(change, some, block)) <= most)
                    self.assertEqual(orders.let_next(change, some, spares), let)

    def test_can_go_on(self):
        for change in many_changes():
            for spares in (1, 2, 3):
                rights = [order for order in itertools.permutations(change[0])]
                for some in brute.subsets(change[0]):
                    many = len(some)
                    most = len(change[0]) + spares
                    ways = [order for order in rights if sorted(order[:many]) == sorted(some)]
                    can = any(all(len(brute.held(change, order[:at], order[at])) <= most
                                  for at in range(many, len(order))) for order in ways)
                    self.assertEqual(orders.can_go_on(change, some, spares), can)

    def test_no_block(self):
        for name in ("x", "", "A", "ab"):
            for function in (orders.reads_of, orders.readers_of, orders.term_of):
                self.assertEqual(refusal(function, CHANGE, name), no_block(name))
            self.assertEqual(refusal(orders.needed_behind, CHANGE, ("a", name) if name > "a" else (name, "a")), no_block(name))
            for function in (orders.let_go, orders.held_at):
                self.assertEqual(refusal(function, CHANGE, (name,), "y"), no_block(name))
                self.assertEqual(refusal(function, CHANGE, ("a",), name), no_block(name))
                self.assertEqual(refusal(function, CHANGE, (name,), "a"), no_block(name))
            for function in (orders.let_next, orders.can_go_on):
                self.assertEqual(refusal(function, CHANGE, (name,), 0), no_block(name))
        self.assertEqual(refusal(orders.let_go, CHANGE, ("a", "x", "y"), "a"), no_block("x"))

    def test_no_spares(self):
        order = ("a", "b", "c", "d")
        for spares in (0, -1, -10 ** 9):
            for function in (orders.let_next, orders.can_go_on):
                self.assertEqual(refusal(function, CHANGE, ("a",), spares), no_number(spares))
            self.assertEqual(refusal(orders.is_right, CHANGE, order, spares), no_number(spares))
            self.assertEqual(refusal(orders.is_right, CHANGE, order[:3], spares), UNFIT)
            self.assertEqual(refusal(orders.is_right, CHANGE, order[:3] + ("x",), spares), no_block("x"))
            self.assertEqual(refusal(orders.nth_right, CHANGE, spares, -7), no_number(spares))
            for function in (orders.right_orders, orders.how_many_right, orders.made_sets, orders.stuck_sets, orders.fence):
                self.assertEqual(refusal(function, CHANGE, spares), no_number(spares))
            for thing in STRANGE:
                self.assertEqual(refusal(orders.is_fence, CHANGE, spares, thing), no_number(spares))


class OrderTest(unittest.TestCase):
    def test_needs(self):
        for change in many_changes():
            many = len(change[0])
            for order in itertools.permutations(change[0]):
                needs = tuple(len(brute.held(change, order[:at], block)) for at, block in enumerate(order))
                needed = brute.need_of(change, order)
                self.assertEqual(orders.needs_along(change, order), needs)
                self.assertEqual(orders.spares_for(change, order), needed)
                for spares in (1, 2, 3, 7):
                    self.assertEqual(orders.is_right(change, order, spares), spares >= needed)
                self.assertTrue(orders.is_right(change, order, many))
                tight = tuple(at for at in range(many) if needs[at] == many + needed)
                self.assertEqual(orders.tight_places(change, order), tight)

    def test_turns(self):
        for change in many_changes():
            for order in itertools.permutations(change[0]):
                saving = []
                for number in range(len(order) - 1):
                    turned = (*order[:number], order[number + 1], order[number], *order[number + 2:])
                    self.assertEqual(orders.turned(change, order, number), turned)
                    if brute.need_of(change, turned) < brute.need_of(change, order):
                        saving.append(number)
                self.assertEqual(orders.saving_turns(change, order), tuple(saving))
                for number in (-1, len(order) - 1, 10 ** 9):
                    self.assertEqual(refusal(orders.turned, change, order, number), no_number(number))

    def test_no_orders(self):
        functions = (orders.needs_along, orders.spares_for, orders.tight_places, orders.saving_turns, orders.keeps_behind)
        wrong = ((), ("a",), ("a", "b", "c"), ("a", "b", "c", "c"), ("a", "b", "c", "d", "d"))
        for order in wrong:
            for function in functions:
                self.assertEqual(refusal(function, CHANGE, order), UNFIT)
            self.assertEqual(refusal(orders.is_right, CHANGE, order, 1), UNFIT)
            self.assertEqual(refusal(orders.turned, CHANGE, order, 99), UNFIT)
            for function in functions:
                self.assertEqual(refusal(function, CHANGE, (*order, "x", "y")), no_block("x"))
            self.assertEqual(refusal(orders.turned, CHANGE, (*order, "z"), 99), no_block("z"))

    def test_right_orders(self):
        for change in many_changes():
            least = min(brute.need_of(change, order) for order in itertools.permutations(change[0]))
            self.assertEqual(orders.least_spares(change), least)
            self.assertEqual(orders.best_order(change), brute.orders_with(change, least)[0])
            for spares in (1, 2, 3):
                right = brute.orders_with(change, spares)
                told = orders.right_orders(change, spares)
                self.assertEqual(told, right)
                self.assertEqual(orders.how_many_right(change, spares), len(right))
                for number, order in enumerate(right):
                    self.assertEqual(orders.nth_right(change, spares, number), order)
                for number in (-1, len(right), 10 ** 9):
                    self.assertEqual(refusal(orders.nth_right, change, spares, number), no_number(number))
                told.append(())
                self.assertEqual(orders.right_orders(change, spares), right)

    def test_six_blocks(self):
        right = brute.orders_with(SIX, 1)
        least = min(brute.need_of(SIX, order) for order in itertools.permutations(SIX[0]))
        self.assertEqual(orders.right_orders(SIX, 1), right)
        self.assertEqual(orders.least_spares(SIX), least)
        self.assertEqual(orders.right_orders(SIX, 6), list(itertools.permutations(SIX[0])))
        self.assertEqual(orders.nth_right(SIX, 6, 500), list(itertools.permutations(SIX[0]))[500])

    def test_behind(self):
        for change in [*many_changes(), SIX]:
            pairs = []
            for one, other in itertools.product(change[0], repeat=2):
                mine, others = set(reads_of(change, one)), set(reads_of(change, other))
                if mine < others or mine == others and one > other:
                    pairs.append((one, other))
            self.assertEqual(orders.goes_behind(change), tuple(sorted(pairs)))
            kept = []
            for order in itertools.permutations(change[0]):
                keeps = all(order.index(one) > order.index(other) for one, other in pairs)
                kept += [order] if keeps else []
                if len(order) < 4:
                    self.assertEqual(orders.keeps_behind(change, order), keeps)
            least = orders.least_spares(change)
            right = [order for order in kept if brute.need_of(change, order) <= least]
            self.assertEqual(orders.order_behind(change), right[0])


class FenceTest(unittest.TestCase):
    def test_sets_that_come(self):
        for change in [*many_changes(), SIX]:
            for spares in (1, 2, 3):
                come = brute.sets_that_come(change, spares)
                self.assertEqual(orders.made_sets(change, spares), come)
                most = len(change[0]) + spares
                stuck = [some for some in come if some != change[0] and not any(
                    len(brute.held(change, some, block)) <= most for block in change[0] if block not in some)]
                self.assertEqual(orders.stuck_sets(change, spares), tuple(stuck))
                found = orders.fence(change, spares)
                if change[0] in come:
                    self.assertIsNone(found)
                else:
                    self.assertEqual(found, come)
                    self.assertTrue(orders.is_fence(change, spares, found))
                self.assertEqual(found is None, orders.how_many_right(change, spares) > 0)

    def test_all_fences(self):
        for change in some_changes():
            if len(change[0]) > 3:
                continue
            sets = sorted(brute.subsets(change[0]))
            most = len(change[0]) + 1
            for fence in brute.subsets(sets):
                right = () in fence and change[0] not in fence and all(
                    tuple(sorted([*some, block])) in fence for some in fence for block in change[0]
                    if block not in some and len(brute.held(change, some, block)) <= most)
                self.assertEqual(orders.is_fence(change, 1, fence), right)

    def test_no_fences(self):
        fence = ((), ("p",), ("q",), ("r",))
        self.assertTrue(orders.is_fence(RING, 1, fence))
        more = ((), ("p",), ("p", "q"), ("q",), ("r",))
        self.assertTrue(orders.is_fence(RING, 1, more))
        wrong = [fence[::-1], fence[1:], fence[:3], (*fence, ("r",)), (*fence, ("x",)), ((), ("p",), ("q",), ("q", "p"), ("r",)),
                 ((), ("p",), ("p", "p"), ("q",), ("r",)), ((), "p", "q", "r"), ((),), nested(30), ((), ("p",), ("p", "q", "r"), ("q",), ("r",))]
        bent = [with_strange_parts(one) + list_at_each_depth(one) for one in (fence, more)]
        for thing in STRANGE + wrong + bent[0] + bent[1]:
            self.assertFalse(orders.is_fence(RING, 1, thing), thing)
        self.assertFalse(orders.is_fence(RING, 2, fence))


class OtherChangesTest(unittest.TestCase):
    def test_beside(self):
        told = orders.beside(RING, CHANGE)
        self.assertEqual(told[0], ("a", "b", "c", "d", "p", "q", "r"))
        self.assertEqual(told[1], CHANGE[1] + RING[1])
        self.assertEqual(orders.beside(CHANGE, RING), told)
        mixed = orders.beside((("a", "c"), (("f", ("a",)), ("g", ("c",)))), (("b",), (("copy", ("b",)),)))
        self.assertEqual(mixed, (("a", "b", "c"), (("f", ("a",)), ("copy", ("b",)), ("g", ("c",)))))
        self.assertEqual(refusal(orders.beside, CHANGE, (("c", "d", "z"), (("f", ()),) * 3)), known("c"))
        self.assertEqual(refusal(orders.beside, CHANGE, CHANGE), known("a"))

    def test_needs_no_more_beside(self):
        other = (("p", "q", "r"), (("f", ("q",)), ("f", ("p",)), ("g", ("p", "q", "r"))))
        for change in some_changes():
            if change == RING:
                continue
            for two in (RING, other):
                together = orders.beside(change, two)
                self.assertLessEqual(orders.least_spares(together), max(orders.least_spares(change), orders.least_spares(two)))

    def test_twelve_blocks(self):
        twelve = orders.beside(SIX, (tuple("uvwxyz"), tuple((name, tuple(chr(ord(read) + 20) for read in reads))
                                                            for name, reads in SIX[1])))
        self.assertEqual(orders.least_spares(twelve), orders.least_spares(SIX))
        self.assertEqual(orders.spares_for(twelve, orders.best_order(twelve)), orders.least_spares(SIX))

    def test_with_recipe(self):
        self.assertEqual(orders.with_recipe(TWIN, "b", ("g", ())), (("a", "b"), (TWIN[1][0], ("g", ()))))
        self.assertEqual(orders.with_recipe(TWIN, "a", ["copy", ["b"]]), (("a", "b"), (("copy", ("b",)), TWIN[1][1])))
        wrong = [("old", ("a",)), ("spoilt", ()), ("copy", ()), ("copy", ("a", "b")), ("f", ("a", "a")), ("f", ("x",)),
                 ("F", ("a",)), ("", ()), ("abcdefghi", ())]
        for recipe in wrong:
            self.assertEqual(refusal(orders.with_recipe, TWIN, "a", recipe), UNFIT)
            self.assertEqual(refusal(orders.with_recipe, TWIN, "x", recipe), no_block("x"))


if __name__ == "__main__":
    unittest.main()
