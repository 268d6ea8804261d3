"""Calls that are asked many thousand times one behind another do not take too long."""

import time
import unittest

from atanywrite import images, orders, plans

RING = (tuple("abcdef"), tuple(("p", (block,)) for block in "bcdefa"))
ORDER = tuple("abcdef")
SPARES = ("s",)
PLAN = plans.plan_for(RING, SPARES)
TWO = (("a", "b"), (("f", ("a", "b")), ("g", ("b",))))
PLAN_OF_TWO = plans.plan_for(TWO, SPARES)
THREE = (("a", "b", "c"), (("f", ("b",)), ("g", ("a", "c")), ("copy", ("a",))))
PLAN_OF_THREE = plans.plan_for(THREE, SPARES)
OLD, NEW = (("a", "pq"), ("b", "rs")), (("a", "xp"), ("b", "qr"))
MORE, RING_OF_MORE = (("a", "pq"), ("b", "rs"), ("c", "tu")), (("a", "st"), ("b", "up"), ("c", "qr"))
ALIKE = (("a", "pp"), ("b", "pp"), ("c", "pp"))
MANY = 200
# Machines are not equally quick.
TIMES = 10

# For each call how many microseconds it ought to take at the most.
CALLS = [
    (400, plans.plan_for, (RING, SPARES)),
    (250, plans.plan_by, (RING, SPARES, ORDER)),
    (150, plans.order_of_plan, (RING, SPARES, PLAN)),
    (100, plans.goes_by, (RING, SPARES, PLAN, ORDER)),
    (30, orders.held_at, (RING, ("a", "b", "c"), "d")),
    (25, plans.goal_of, (RING,)),
    (4000, plans.fewest_moves_of, (RING, SPARES)),
    (35, orders.needs_along, (RING, ORDER)),
    (75, plans.plan_for, (TWO, SPARES)),
    (120, plans.plan_for, (THREE, SPARES)),
    (40, plans.order_of_plan, (TWO, SPARES, PLAN_OF_TWO)),
    (40, plans.goes_by, (THREE, SPARES, PLAN_OF_THREE, ("a", "b", "c"))),
    (120, plans.fewest_moves_of, (TWO, SPARES)),
    (190, plans.fewest_moves_of, (THREE, SPARES)),
    (6, images.ways, (OLD, NEW, "a")),
    (11, images.ways, (MORE, RING_OF_MORE, "a")),
    (20, images.lean_making, (OLD, NEW, 1)),
    (100, images.lean_making, (MORE, RING_OF_MORE, 1)),
    (2500, images.lean_making, (ALIKE, ALIKE, 1)),
    (40, images.letters_by_spares, (OLD, NEW)),
    (230, images.letters_by_spares, (MORE, RING_OF_MORE)),
    (6, images.change_by, (OLD, NEW, images.least_making(OLD, NEW))),
    (10, images.change_by, (MORE, RING_OF_MORE, images.least_making(MORE, RING_OF_MORE))),
]


def taken(function, values):
    """The mean of many calls, in microseconds."""
    started = time.perf_counter()
    for _ in range(MANY):
        function(*values)
    return (time.perf_counter() - started) / MANY * 10 ** 6


class SpeedTest(unittest.TestCase):
    def test_calls(self):
        for most, function, values in CALLS:
            with self.subTest(function.__name__, values=values):
                # Something else may have kept the machine busy: the quickest of three counts.
                best = min(taken(function, values) for _ in range(3))
                self.assertLess(best, most * TIMES)

    def test_large_changes_are_no_deep_calls(self):
        change = (("a", "b", "c"), (("f", ("b", "c")), ("g", ("a",)), ("copy", ("a",))))
        for letter in "xyzuvws":
            change = orders.beside(change, renamed(change, letter))
        order = orders.best_order(change)
        self.assertEqual((len(order), orders.least_spares(change), orders.is_right(change, order, 1)), (384, 1, True))


def renamed(change, letter):
    """The CHANGE with the letter ahead of each block."""
    recipes = tuple((name, tuple(letter + read for read in reads)) for name, reads in change[1])
    return (tuple(letter + block for block in change[0]), recipes)


if __name__ == "__main__":
    unittest.main()
