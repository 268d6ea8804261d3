"""Point 13: paces."""

import itertools
import unittest

from atanywrite.paces import (
    is_mixed_well, is_paces, may_have, may_meet, meeting, met_in_all, surely_has, widest,
)
from tests import brute_fleets as brute
from tests.common import STRANGE, UNFIT, list_at_each_depth, listed, nested, no_device, refusal, with_strange_parts
from tests.samples_fleets import FLEET, PACES_OF_TWO

STEPS = brute.small_steps()
MOMENTS = range(9)
LONG = tuple((name, tuple((at + 3 * step, at + 5 * step) for step in range(1, 6))) for at, name in enumerate("abcdefgh"))


class ShapeTest(unittest.TestCase):
    def test_paces(self):
        for steps in STEPS:
            self.assertIs(is_paces((("ann", steps),)), True, steps)
        self.assertIs(is_paces(PACES_OF_TWO), True)
        self.assertIs(is_paces(LONG), True)

    def test_nearly_paces(self):
        for steps in (
            ((-1, 0),), ((2, 1),), ((0, 1), (0, 2)), ((0, 2), (1, 2)), ((0, 3), (1, 2)), ((1, 2), (0, 3)), ((0, True),),
            ((False, 1),), ((0,),), ((0, 1, 2),), (0, 1), ((0, "1"),), (None,), None, "a", 1, ((0, (1,)),),
        ):
            self.assertIs(is_paces((("ann", steps),)), False, steps)
        for thing in (
            (), (("ann", (), ()),), (("ann",),), ("ann", ()), (("bob", ()), ("ann", ())), (("ann", ()), ("ann", ())),
            (("ann", ()), ("ann", ((0, 1),))), (("Ann", ()),), (("", ()),), ((1, ()),),
        ):
            self.assertIs(is_paces(thing), False, thing)

    def test_no_paces_at_all(self):
        for thing in STRANGE + [nested(29), nested(28, "a"), FLEET, listed(PACES_OF_TWO)]:
            self.assertIs(is_paces(thing), False, thing)
        for thing in list_at_each_depth(PACES_OF_TWO) + with_strange_parts(PACES_OF_TWO):
            self.assertIs(is_paces(thing), False, thing)


class ErrorTest(unittest.TestCase):
    def test_errors(self):
        for function in (may_have, surely_has):
            self.assertEqual(refusal(function, PACES_OF_TWO, "x", 1), no_device("x"))
            self.assertEqual(refusal(function, PACES_OF_TWO, "", 1), no_device(""))
        for function, more in ((may_meet, ()), (meeting, ((0, 0),))):
            self.assertEqual(refusal(function, PACES_OF_TWO, "x", "y", *more), no_device("x"))
            self.assertEqual(refusal(function, PACES_OF_TWO, "ann", "y", *more), no_device("y"))
            self.assertEqual(refusal(function, PACES_OF_TWO, "x", "x", *more), no_device("x"))
            self.assertEqual(refusal(function, PACES_OF_TWO, "bob", "bob", *more), UNFIT)


class VersionTest(unittest.TestCase):
    def test_one_device(self):
        for steps in STEPS:
            pace = (("ann", steps),)
            for moment in MOMENTS:
                versions = tuple(sorted(brute.versions_at(steps, moment)))
                self.assertEqual(may_have(pace, "ann", moment), versions)
                self.assertEqual(surely_has(pace, "ann", moment), versions[0] if len(versions) == 1 else None)
            self.assertEqual((met_in_all(pace), widest(pace), is_mixed_well(pace, ())), ((), 0, True))

    def test_two_devices(self):
        for one, other in itertools.product(STEPS[::2], STEPS):
            pair = (("ann", one), ("bob", other))
            meetings = {}
            for moment in MOMENTS:
                for both in itertools.product(brute.versions_at(one, moment), brute.versions_at(other, moment)):
                    meetings.setdefault(both, moment)
            self.assertEqual(may_meet(pair, "ann", "bob"), tuple(sorted(meetings)))
            self.assertEqual(may_meet(pair, "bob", "ann"), tuple(sorted(both[::-1] for both in meetings)))
            for both in itertools.product(range(-1, 5), repeat=2):
                self.assertEqual(meeting(pair, "ann", "bob", both), meetings.get(both))
                self.assertEqual(meeting(pair, "bob", "ann", list(both[::-1])), meetings.get(both))
            in_all = tuple(sorted({tuple(sorted(both)) for both in meetings}))
            self.check_mixed(pair, in_all)

    def check_mixed(self, paces, in_all):
        self.assertEqual(met_in_all(paces), in_all)
        self.assertEqual(widest(paces), max([high - low for low, high in in_all], default=0))
        self.assertIs(is_mixed_well(paces, in_all), True)
        self.assertIs(is_mixed_well(paces, listed(in_all)), True)
        self.assertIs(is_mixed_well(paces, tuple(sorted({*in_all, (7, 9)}))), True)
        for at in range(len(in_all)):
            self.assertIs(is_mixed_well(paces, in_all[:at] + in_all[at + 1:]), False)

    def test_three_devices(self):
        for steps in itertools.product(STEPS[::9], repeat=3):
            paces = tuple(zip(("ann", "bob", "cy"), steps))
            found = set()
            for one, other in itertools.combinations(("ann", "bob", "cy"), 2):
                found |= {tuple(sorted(both)) for both in may_meet(paces, one, other)}
            self.check_mixed(paces, tuple(sorted(found)))

    def test_edges(self):
        # Steps that come at one moment alone, the first one at once; a version that nobody ever has.
        self.assertEqual(may_have((("ann", ((0, 0),)),), "ann", 0), (1,))
        self.assertEqual(may_meet((("ann", ((0, 0),)), ("bob", ())), "ann", "bob"), ((1, 0),))
        self.assertEqual(meeting((("ann", ()), ("bob", ())), "ann", "bob", (0, 0)), 0)
        # Steps that overlap: two of them within one time.
        self.assertEqual(may_have((("ann", ((0, 8), (1, 9))),), "ann", 5), (0, 1, 2))
        self.assertEqual(widest(LONG), 4)


if __name__ == "__main__":
    unittest.main()
