"""Point 12: rollouts."""

import itertools
import time
import unittest

from atanywrite import rollouts
from atanywrite.rollouts import (
    as_one, begin_counts, begin_of, done_by, harm, harmed_of, is_classes, is_mild, is_over, is_quickest, is_rollout,
    is_whole, last_start, least_most, left_of, may_start, over, quickest, soonest_end, starts_as_one, stop_of, tamed,
    well_at, worst_bad, worst_harm,
)
from tests import brute_fleets as brute
from tests.common import (
    STRANGE, UNFIT, list_at_each_depth, listed, nested, no_class, refusal, with_strange_parts,
)
from tests.samples_fleets import CLASSES, QUICK, RASH

FULL = (("a", 40), ("b", 40), ("c", 40), ("d", 40), ("e", 40), ("f", 40))
LONG = tuple(sorted((moment, name, 1) for moment in range(40) for name in "abcdef"))


class ShapeTest(unittest.TestCase):
    def test_classes(self):
        for thing in ((), CLASSES, (("a", 1),), (("old", 10 ** 30), ("spoilt", 2)), FULL):
            self.assertIs(is_classes(thing), True, thing)

    def test_nearly_classes(self):
        for thing in (
            (("a", 0),), (("a", -1),), (("a", True),), (("b", 1), ("a", 1)), (("a", 1), ("a", 1)), (("a", 1), ("a", 2)),
            (("A", 1),), (("", 1),), (("ninechars", 1),), (("a", "1"),), (("a",),), (("a", 1, 1),), ("a", 1), ("a1",),
            (("a", 1), None), (("a", 1), ["b", 1]), ((1, "a"),),
        ):
            self.assertIs(is_classes(thing), False, thing)

    def test_no_classes_at_all(self):
        for thing in [thing for thing in STRANGE if thing != ()] + [nested(29), nested(28, "a"), QUICK]:
            self.assertIs(is_classes(thing), False, thing)
        for thing in list_at_each_depth(CLASSES) + with_strange_parts(CLASSES) + [listed(CLASSES)]:
            self.assertIs(is_classes(thing), False, thing)

    def test_rollouts(self):
        for thing in ((), QUICK, RASH, ((0, "a", 1),), ((0, "c", 1), (1, "c", 1), (10 ** 30, "c", 3))):
            self.assertIs(is_rollout(CLASSES, thing), True, thing)
            self.assertIs(is_rollout(listed(CLASSES), thing), True, thing)
        self.assertIs(is_rollout((), ()), True)
        self.assertIs(is_rollout((), ((0, "a", 1),)), False)
        self.assertIs(is_rollout(FULL, LONG), True)
        self.assertIs(is_rollout(FULL, LONG + ((40, "a", 1),)), False)

    def test_nearly_rollouts(self):
        for thing in (
            ((0, "a", 2),), ((0, "a", 0),), ((-1, "a", 1),), ((0, "x", 1),), ((0, "a", True),), ((True, "a", 1),),
            ((False, "a", 1),), ((0, "c", 3), (1, "c", 3)), ((0, "c", 1), (0, "c", 1)), ((0, "c", 1), (0, "c", 2)),
            ((0, "c", 2), (0, "c", 1)), ((1, "a", 1), (0, "b", 1)), ((0, "b", 1), (0, "a", 1)), ((0, "a"),),
            ((0, "a", 1, 1),), (0, "a", 1), (("a", 0, 1),), ((0, "", 1),), ((0, None, 1),), ((0, ("a",), 1),),
        ):
            self.assertIs(is_rollout(CLASSES, thing), False, thing)

    def test_no_rollouts_at_all(self):
        for thing in [thing for thing in STRANGE if thing != ()] + [nested(29), nested(28, "a"), CLASSES]:
            self.assertIs(is_rollout(CLASSES, thing), False, thing)
        for thing in list_at_each_depth(QUICK) + with_strange_parts(QUICK) + [listed(QUICK)]:
            self.assertIs(is_rollout(CLASSES, thing), False, thing)

    def test_are_of_the_words(self):
        for classes, rollout in brute.small_rollouts():
            self.assertTrue(is_classes(classes))
            self.assertTrue(is_rollout(classes, rollout))


class ErrorTest(unittest.TestCase):
    def test_the_first_as_handed_in(self):
        for function in (stop_of, done_by, harm, harmed_of):
            self.assertEqual(refusal(function, RASH, 10, ("a", "b", "x")), no_class("b"))
            self.assertEqual(refusal(function, RASH, 10, ["x", "b"]), no_class("x"))
            self.assertEqual(refusal(function, (), 10, ("a",)), no_class("a"))
            self.assertEqual(refusal(function, RASH, 10, ("",)), no_class(""))
        self.assertEqual(refusal(begin_of, RASH, "b"), no_class("b"))
        self.assertEqual(refusal(begin_of, (), ""), no_class(""))
        self.assertEqual(refusal(left_of, CLASSES, RASH, "x"), no_class("x"))
        self.assertEqual(refusal(may_start, CLASSES, RASH, 10, 0, 4, "x"), no_class("x"))
        for function, value in ((as_one, CLASSES), (starts_as_one, RASH)):
            self.assertEqual(refusal(function, value, "x", "y"), no_class("x"))
            self.assertEqual(refusal(function, value, "x", "x"), no_class("x"))
            self.assertEqual(refusal(function, value, "a", "y"), no_class("y"))
            self.assertEqual(refusal(function, value, "a", "a"), UNFIT)
        self.assertEqual(refusal(starts_as_one, RASH, "a", "b"), no_class("b"))

    def test_classes_without_a_start_are_none_where_the_rollout_alone_is_handed_in(self):
        self.assertEqual(left_of(CLASSES, RASH, "b"), 1)
        self.assertEqual(may_start(CLASSES, RASH, 4, 3, 9, "b"), 1)


class HarmTest(unittest.TestCase):
    def test_edges(self):
        self.assertEqual((stop_of((), 3, ()), done_by((), 3, ()), harm((), 3, ()), harmed_of((), 3, ())), (None, (), 0, ()))
        self.assertEqual((begin_counts((), 1), worst_harm((), 1), worst_bad((), 1), over((), 1, 0)), ((), 0, (), None))
        self.assertEqual((last_start(()), well_at((), 1, 9), tamed((), 1, 0)), (None, (), ()))
        self.assertIs(is_mild((), 1, 0), True)
        self.assertEqual(done_by(RASH, 10, ()), RASH)
        # At one moment, and just delay apart: what is told is told ahead of what would be started.
        together = ((5, "a", 2), (5, "b", 3))
        self.assertEqual((harm(together, 1, ("a", "b")), harm(together, 1, ("a",)), worst_bad(together, 1)), (5, 2, ("a", "b")))
        apart = ((5, "a", 2), (8, "a", 3), (8, "b", 1))
        self.assertEqual((harm(apart, 3, ("a", "b")), harm(apart, 4, ("a", "b")), harm(apart, 4, ("a",))), (2, 6, 5))
        self.assertEqual((well_at(apart, 3, 7), well_at(apart, 3, 8), well_at(apart, 3, 11)), ((), ("a",), ("a", "b")))
        self.assertEqual(begin_counts(apart, 3), ((5, 2), (8, 1)))

    def test_by_the_words(self):
        for classes, rollout in brute.small_rollouts():
            names = brute.classes_in(rollout)
            self.assertEqual(is_whole(classes, rollout), sum(start[2] for start in rollout) == sum(dict(classes).values()))
            self.assertEqual(last_start(rollout), max([start[0] for start in rollout], default=None))
            for name, devices in classes:
                started = sum(start[2] for start in rollout if start[1] == name)
                self.assertEqual(left_of(classes, rollout, name), devices - started)
                if started:
                    self.assertEqual(begin_of(rollout, name), brute.begin(rollout, name))
            for delay in (1, 2, 4):
                for bad in brute.subsets(names):
                    harmed = brute.harmed(rollout, delay, bad)
                    told = tuple((name, harmed.count(name)) for name in names if name in harmed)
                    self.assertEqual((harmed_of(rollout, delay, bad), harm(rollout, delay, bad)), (told, len(harmed)))
                    stop = min([brute.begin(rollout, name) for name in bad], default=None)
                    self.assertEqual(stop_of(rollout, delay, bad), stop if stop is None else stop + delay)
                    done = tuple(start for start in rollout if stop is None or start[0] < stop + delay)
                    self.assertEqual(done_by(rollout, delay, bad), done)
                for moment in range(7):
                    told = tuple(name for name in names if brute.begin(rollout, name) + delay <= moment)
                    self.assertEqual(well_at(rollout, delay, moment), told)

    def test_guarantees(self):
        for classes, rollout in brute.small_rollouts():
            names = brute.classes_in(rollout)
            for delay in (1, 2, 4):
                worst = brute.worst(rollout, delay)
                moments = sorted({brute.begin(rollout, name) for name in names})
                counts = tuple((moment, brute.count(rollout, delay, moment)) for moment in moments)
                self.assertEqual(begin_counts(rollout, delay), counts)
                self.assertEqual(worst_harm(rollout, delay), worst)
                self.assertEqual(max([count for _, count in counts], default=0), worst)
                by_them = [bad for bad in brute.subsets(names) if len(brute.harmed(rollout, delay, bad)) == worst]
                self.assertEqual(worst_bad(rollout, delay), min(by_them, key=lambda bad: (len(bad), bad)))
                for moment, many in counts:
                    later = [name for name in names if brute.begin(rollout, name) >= moment]
                    self.assertEqual(harm(rollout, delay, later), many)
                for most in range(worst + 2):
                    self.check_over(rollout, delay, most, names, worst)

    def check_over(self, rollout, delay, most, names, worst):
        self.assertIs(is_mild(rollout, delay, most), worst <= most)
        pair = over(rollout, delay, most)
        self.assertEqual(pair is None, worst <= most)
        self.assertEqual(over(rollout, delay, most), pair)
        self.assertIs(is_over(rollout, delay, most, pair), pair is not None)
        for bad in brute.subsets(names):
            for moment in range(5):
                right = bad != () and min(brute.begin(rollout, name) for name in bad) == moment
                right = right and len(brute.harmed(rollout, delay, bad)) > most
                self.assertIs(is_over(rollout, delay, most, (moment, bad)), right)

    def test_things_that_are_no_such_pair(self):
        right = (0, ("a", "c"))
        self.assertIs(is_over(RASH, 10, 3, right), True)
        for thing in STRANGE + list_at_each_depth(right) + with_strange_parts(right) + [
            (False, ("a", "c")), (0, ("c", "a")), (0, ("a", "a", "c")), (0, ("a", "b", "c")), (4, ("a", "c")), (0, "ac"),
            (0, ("c",)), (0, ()), (0, ("a", "c"), ()), (("a", "c"), 0), ((), 0), nested(29),
        ]:
            self.assertIs(is_over(RASH, 10, 3, thing), False, thing)
        self.assertIs(is_over(RASH, 10, 2, (0, ("c",))), True)
        self.assertIs(is_over((), 10, 0, (0, ())), False)


class MoreTest(unittest.TestCase):
    def test_may_start_by_the_words(self):
        for at, (classes, rollout) in enumerate(brute.small_rollouts()):
            if at % 3:
                continue
            for (name, _), moment, delay, most in itertools.product(classes, (0, 1, 2, 3), (1, 2), (0, 1, 2, 3)):
                told = may_start(classes, rollout, delay, most, moment, name)
                if brute.worst(rollout, delay) > most:
                    self.assertIsNone(told)
                    continue
                fit = [many for many in range(left_of(classes, rollout, name) + 1)
                       if brute.worst(self.more(rollout, moment, name, many), delay) <= most]
                self.assertEqual(told, max(fit))

    def more(self, rollout, moment, name, many):
        added = {(at, own): devices for at, own, devices in rollout}
        added[(moment, name)] = added.get((moment, name), 0) + many
        return tuple((*key, added[key]) for key in sorted(added) if added[key])

    def test_tamed_by_the_words(self):
        for classes, rollout in brute.small_rollouts():
            for delay, most in itertools.product((1, 2, 4), (0, 1, 2, 3)):
                kept = ()
                for moment, name, devices in rollout:
                    for many in range(devices, 0, -1):
                        if brute.worst((*kept, (moment, name, many)), delay) <= most:
                            kept = (*kept, (moment, name, many))
                            break
                self.assertEqual(tamed(rollout, delay, most), kept)
                if is_mild(rollout, delay, most):
                    self.assertEqual(kept, rollout)

    def test_two_as_one_never_harm_more(self):
        for classes, rollout in brute.small_rollouts():
            for one, other in itertools.permutations(brute.classes_in(rollout), 2):
                told = starts_as_one(rollout, one, other)
                whole = as_one(classes, one, other)
                self.assertTrue(is_classes(whole))
                self.assertTrue(is_rollout(whole, told))
                self.assertEqual(sum(start[2] for start in told), sum(start[2] for start in rollout))
                self.assertEqual(is_whole(whole, told), is_whole(classes, rollout))
                self.assertEqual(len(whole), len(classes) - 1)
                self.assertNotIn(other, dict(whole))
                for delay in (1, 2, 4):
                    self.assertLessEqual(worst_harm(told, delay), worst_harm(rollout, delay))
                    for bad in brute.subsets(brute.classes_in(told)):
                        both = set(bad) | ({other} if one in bad else set())
                        self.assertEqual(harm(told, delay, bad), len(brute.harmed(rollout, delay, both)))

    def test_as_one(self):
        self.assertEqual(as_one(CLASSES, "d", "a"), (("b", 1), ("c", 5), ("d", 6)))
        self.assertEqual(starts_as_one(QUICK, "d", "c"), ((0, "d", 2), (10, "a", 1), (10, "b", 1), (10, "d", 8)))
        self.assertEqual(starts_as_one(QUICK, "c", "d")[0], (0, "c", 2))


class QuickestTest(unittest.TestCase):
    SMALL = [
        (), (("a", 1),), (("a", 2),), (("a", 3),), (("a", 1), ("b", 1)), (("a", 1), ("b", 2)), (("a", 2), ("b", 2)),
        (("a", 2), ("b", 1), ("c", 1)), (("a", 2), ("b", 2), ("c", 1)), (("a", 1), ("b", 1), ("c", 1), ("d", 1)),
    ]

    def test_by_all_rollouts(self):
        for classes in self.SMALL:
            for delay, most in itertools.product((1, 2), range(5)):
                end = soonest_end(classes, delay, most)
                if most == 0 or classes == ():
                    self.assertIsNone(end)
                    continue
                self.assertEqual(brute.soonest(classes, delay, most, end + 1), end)

    def test_quickest(self):
        for classes in [*self.SMALL, CLASSES, FULL, (("a", 1), ("b", 3), ("c", 4), ("d", 4), ("e", 9))]:
            for delay, most in itertools.product((1, 2, 7), range(9)):
                told = quickest(classes, delay, most)
                self.assertEqual(quickest(classes, delay, most), told)
                if most == 0 and classes:
                    self.assertIsNone(told)
                    self.assertIs(is_quickest(classes, delay, most, told), False)
                    self.assertIs(is_quickest(classes, delay, most, ()), False)
                    continue
                self.assertIs(is_quickest(classes, delay, most, told), True)
                self.assertTrue(is_rollout(classes, told) and is_whole(classes, told) and is_mild(told, delay, most))
                self.assertEqual(last_start(told), soonest_end(classes, delay, most))

    def test_is_quickest_of_all_rollouts(self):
        for classes, delay, most in itertools.product(self.SMALL[1:8], (1, 2), (0, 1, 2, 3)):
            end = soonest_end(classes, delay, most)
            for rollout in brute.rollouts_of(classes, (0, 1, 2), False):
                right = rollout != () and is_whole(classes, rollout) and brute.worst(rollout, delay) <= most
                self.assertIs(is_quickest(classes, delay, most, rollout), right and rollout[-1][0] == end)

    def test_things_that_are_not_quickest(self):
        self.assertIs(is_quickest((), 1, 0, ()), True)
        self.assertIs(is_quickest((), 1, 0, []), False)
        for thing in STRANGE + list_at_each_depth(QUICK) + with_strange_parts(QUICK) + [nested(29), QUICK[1:], QUICK[:-1]]:
            self.assertIs(is_quickest(CLASSES, 10, 2, thing), False, thing)

    def test_least_most(self):
        for classes, delay, moment in itertools.product(self.SMALL, (1, 2), range(6)):
            told = least_most(classes, delay, moment)
            if classes == ():
                self.assertEqual(told, 0)
                continue
            ends = [soonest_end(classes, delay, most) for most in range(1, 9)]
            self.assertEqual(told, [end <= moment for end in ends].index(True) + 1)
        self.assertEqual(least_most(FULL, 10, 9), 240)
        self.assertEqual(least_most(FULL, 10, 10), 6)
        self.assertEqual(least_most(FULL, 10, 59), 2)
        self.assertEqual(least_most(FULL, 10, 60), 1)

    def test_long_ones_are_answered_soon(self):
        started = time.perf_counter()
        tamed(LONG, 20, 60)
        tamed(tuple((0, name, 40) for name in "abcdef"), 20, 100)
        worst_bad(LONG, 20)
        quickest(FULL, 10, 5)
        least_most(FULL, 10, 7)
        may_start(FULL, LONG[:100], 3, 100, 50, "a")
        self.assertLess(time.perf_counter() - started, 5)


class SampleTest(unittest.TestCase):
    def test_answers(self):
        self.assertEqual(rollouts.tamed(QUICK, 11, 2), ((0, "c", 1), (0, "d", 1)))
        self.assertEqual(may_start(CLASSES, (), 3, 2, 5, "c"), 2)
        self.assertEqual(may_start(CLASSES, (), 3, 9, 5, "c"), 5)
        self.assertIsNone(may_start(CLASSES, RASH, 10, 3, 4, "c"))


if __name__ == "__main__":
    unittest.main()
