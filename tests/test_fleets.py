"""Point 13: fleets."""

import itertools
import time
import unittest

from atanywrite.fleets import (
    awake_from, case_above, devices_of, fleet_counts, greatest_delay, harmed, harms_at_most, is_case_above, is_fleet,
    is_timing, is_worst_case, maybe_begun, most_harmed, stopped_at, surely_begun, worst_case,
)
from tests import brute_fleets as brute
from tests.common import (
    STRANGE, UNFIT, list_at_each_depth, listed, nested, no_class, no_device, refusal, with_strange_parts,
)
from tests.samples_fleets import BOTH, CASE, FLEET, LATES, TIMING

ALONE = (("ann", "x", (3,)),)
LONG = tuple((name, "xyz"[at % 3], tuple(range(at, at + 50, 10))) for at, name in enumerate("abcdefgh"))
FLEETS = list(brute.small_fleets())
FEW = FLEETS[::7]


class ShapeTest(unittest.TestCase):
    def test_fleets(self):
        for thing in [FLEET, ALONE, LONG, (("a", "a", (0, 10 ** 30)),), *FEW]:
            self.assertIs(is_fleet(thing), True, thing)

    def test_nearly_fleets(self):
        for thing in (
            (), (("a", "x", ()),), (("a", "x", (-1,)),), (("a", "x", (1, 1)),), (("a", "x", (2, 1)),), (("a", "x", (True,)),),
            (("a", "x", (0, True)),), (("a", "x", 1),), (("A", "x", (1,)),), (("a", "X", (1,)),), (("a", "", (1,)),),
            (("a", "x"),), (("a", "x", (1,), ()),), ("a", "x", (1,)), (("b", "x", (1,)), ("a", "x", (1,))),
            (("a", "x", (1,)), ("a", "y", (1,))), (("a", "x", (1,)), ("a", "x", (2,))), (("a", "x", ((1,),)),),
            (("a", "x", ("1",)),), (("a", "x", (None,)),),
        ):
            self.assertIs(is_fleet(thing), False, thing)

    def test_no_fleets_at_all(self):
        for thing in STRANGE + [nested(29), nested(28, "a"), TIMING, CASE, listed(FLEET)]:
            self.assertIs(is_fleet(thing), False, thing)
        for thing in list_at_each_depth(FLEET) + with_strange_parts(FLEET):
            self.assertIs(is_fleet(thing), False, thing)

    def test_timings(self):
        for fleet in FEW:
            moments = sorted({moment for _, _, tries in fleet for moment in tries} | {9})
            for thing in itertools.product(moments, repeat=len(fleet)):
                right = all(moment in tries for moment, (_, _, tries) in zip(thing, fleet))
                self.assertIs(is_timing(fleet, thing), right)
                self.assertIs(is_timing(listed(fleet), thing), right)
                self.assertIs(is_timing(fleet, thing[1:]), False)
                self.assertIs(is_timing(fleet, (*thing, thing[0])), False)
        for thing in STRANGE + list_at_each_depth(TIMING) + with_strange_parts(TIMING) + [nested(29), FLEET, (False, 2, 3, 4)]:
            self.assertIs(is_timing(FLEET, thing), False, thing)


class ErrorTest(unittest.TestCase):
    def test_errors(self):
        self.assertEqual(refusal(devices_of, FLEET, "ann"), no_class("ann"))
        self.assertEqual(refusal(devices_of, FLEET, ""), no_class(""))
        self.assertEqual(refusal(awake_from, FLEET, "old", 99), no_device("old"))
        self.assertEqual(refusal(awake_from, FLEET, "bob", 6), UNFIT)
        self.assertEqual(refusal(awake_from, ALONE, "ann", 4), UNFIT)
        for function in (harmed, stopped_at):
            self.assertEqual(refusal(function, FLEET, TIMING, LATES, ("new", "x", "y")), no_class("x"))
            self.assertEqual(refusal(function, FLEET, TIMING, LATES, ["y", "x"]), no_class("y"))
            self.assertEqual(refusal(function, FLEET, TIMING, LATES, ()), UNFIT)
            self.assertEqual(refusal(function, FLEET, TIMING, LATES, []), UNFIT)


class BegunTest(unittest.TestCase):
    def test_by_the_words(self):
        for fleet in FEW:
            for name in brute.classes_of(fleet):
                self.assertEqual(devices_of(fleet, name), tuple(device for device, own, _ in fleet if own == name))
            for moment in range(5):
                begun = [{fleet[at][0] for at, own in enumerate(timing) if own <= moment} for timing in brute.timings(fleet)]
                self.assertEqual(surely_begun(fleet, moment), tuple(sorted(set.intersection(*begun))))
                self.assertEqual(maybe_begun(fleet, moment), tuple(sorted(set.union(*begun))))

    def test_awake_from(self):
        for fleet in FEW:
            for (at, (device, name, tries)), moment in itertools.product(enumerate(fleet), range(5)):
                later = [own for own in tries if own >= moment]
                if not later:
                    self.assertEqual(refusal(awake_from, fleet, device, moment), UNFIT)
                    continue
                told = awake_from(fleet, device, moment)
                self.assertEqual(told, fleet[:at] + ((device, name, (later[0],)),) + fleet[at + 1:])
                self.assertTrue(is_fleet(told))


class HarmTest(unittest.TestCase):
    def test_edges(self):
        self.assertEqual((harmed(ALONE, (3,), (1,), ("x",)), stopped_at(ALONE, (3,), (1,), ("x",))), (("ann",), 4))
        self.assertEqual((fleet_counts(ALONE, 1), most_harmed(ALONE, 1), worst_case(ALONE, 5)), (((3, 1),), 1, ((3,), ("x",))))
        self.assertEqual((greatest_delay(ALONE, 0), greatest_delay(ALONE, 1), case_above(ALONE, 9, 1)), (0, None, None))
        # What is told at a moment is told ahead of what begins then.
        two = (("a", "x", (0,)), ("b", "x", (3,)))
        self.assertEqual((harmed(two, (0, 3), (3, 1), ("x",)), harmed(two, (0, 3), (4, 1), ("x",))), (("a",), ("a", "b")))
        self.assertEqual((greatest_delay(two, 0), greatest_delay(two, 1), greatest_delay(two, 2)), (0, 3, None))
        # A device that never begins tells nothing; one that is told late may be stopped by another one.
        self.assertEqual(stopped_at(two, (0, 3), (10, 1), ("x",)), 4)

    def test_by_the_words(self):
        for fleet in FEW:
            for timing, bad in brute.cases(fleet):
                for lates in itertools.product((1, 2, 4), repeat=len(fleet)):
                    told, stop = brute.harmed_of(fleet, timing, lates, bad)
                    self.assertEqual(sorted(harmed(fleet, timing, lates, bad)), sorted(told))
                    self.assertEqual(harmed(fleet, timing, lates, bad), tuple(sorted(told)))
                    self.assertEqual(stopped_at(fleet, timing, lates, bad), stop)

    def test_counts(self):
        for fleet, delay in itertools.product(FLEETS, (1, 2, 3, 4)):
            moments = sorted({moment for _, _, tries in fleet for moment in tries})
            told = tuple((moment, brute.counted(fleet, delay, moment)) for moment in moments)
            self.assertEqual(fleet_counts(fleet, delay), told)

    def test_the_most_harmed(self):
        for fleet, delay in itertools.product(FEW, (1, 2, 3, 4)):
            most = brute.most_harmed(fleet, delay)
            self.assertEqual(most_harmed(fleet, delay), most)
            self.assertEqual(max(many for _, many in fleet_counts(fleet, delay)), most)
            for many in range(len(fleet) + 1):
                self.assertIs(harms_at_most(fleet, delay, many), most <= many)

    def test_lates_that_are_all_delay_harm_most(self):
        for fleet, delay in itertools.product(FLEETS[::41], (2, 3)):
            most = most_harmed(fleet, delay)
            for lates in itertools.product(range(1, delay + 1), repeat=len(fleet)):
                for timing, bad in brute.cases(fleet):
                    self.assertLessEqual(len(harmed(fleet, timing, lates, bad)), most)

    def test_more_tries_and_more_delay_harm_no_fewer(self):
        for fleet in FEW:
            for delay in (1, 2, 3):
                most = most_harmed(fleet, delay)
                self.assertLessEqual(most, most_harmed(fleet, delay + 1))
                for at, (device, name, tries) in enumerate(fleet):
                    more = fleet[:at] + ((device, name, tuple(sorted({*tries, 2}))),) + fleet[at + 1:]
                    self.assertLessEqual(most, most_harmed(more, delay))

    def test_greatest_delay(self):
        for fleet, many in itertools.product(FLEETS, range(4)):
            right = [delay for delay in range(1, 6) if most_harmed(fleet, delay) <= many]
            told = None if 5 in right else max(right, default=0)
            self.assertEqual(greatest_delay(fleet, many), told)


class CaseTest(unittest.TestCase):
    def test_cases(self):
        for fleet, delay in itertools.product(FEW, (1, 2, 3, 4)):
            most = most_harmed(fleet, delay)
            worst = worst_case(fleet, delay)
            self.assertIs(is_worst_case(fleet, delay, worst), True)
            self.assertEqual(worst_case(listed(fleet), delay), worst)
            for many in range(len(fleet) + 1):
                case = case_above(fleet, delay, many)
                self.assertEqual(case is None, many >= most)
                self.assertEqual(case_above(fleet, delay, many), case)
                self.assertIs(is_case_above(fleet, delay, many, case), case is not None)
            for case in brute.cases(fleet):
                count = len(brute.harmed_of(fleet, case[0], (delay,) * len(fleet), case[1])[0])
                self.assertIs(is_worst_case(fleet, delay, case), count == most)
                for many in range(len(fleet) + 1):
                    self.assertIs(is_case_above(fleet, delay, many, case), count > many)

    def test_things_that_are_no_cases(self):
        self.assertIs(is_case_above(FLEET, 3, 1, (TIMING, BOTH)), True)
        self.assertIs(is_worst_case(FLEET, 3, (TIMING, BOTH)), True)
        bent = [
            (TIMING, ()), (TIMING, ("old", "new")), (TIMING, ("new", "new", "old")), (TIMING, ("new", "old", "x")),
            (TIMING, "old"), (TIMING, ("ann",)), (TIMING,), (TIMING, BOTH, ()), (BOTH, TIMING), ((0, 2, 3, 5), BOTH),
            ((False, 2, 3, 4), BOTH), (TIMING[:3], BOTH), (TIMING, None), nested(29), (nested(28), BOTH),
        ]
        for thing in STRANGE + bent + list_at_each_depth((TIMING, BOTH)) + with_strange_parts((TIMING, BOTH)):
            self.assertIs(is_case_above(FLEET, 3, 1, thing), False, thing)
            self.assertIs(is_case_above(FLEET, 3, 0, thing), False, thing)
            self.assertIs(is_worst_case(FLEET, 3, thing), False, thing)

    def test_long_ones_are_answered_soon(self):
        started = time.perf_counter()
        worst_case(LONG, 12)
        greatest_delay(LONG, 3)
        self.assertIs(is_worst_case(LONG, 12, worst_case(LONG, 12)), True)
        self.assertLess(time.perf_counter() - started, 2)


if __name__ == "__main__":
    unittest.main()
