"""Point 11: DEVICES, BOOTS, ERRANDS, EVENTS, what comes of them."""

import itertools
import unittest

from atanywrite import slots
from tests import brute
from tests.common import STRANGE, list_at_each_depth, nested, no_number, refusal, with_strange_parts

CAN_NOT = ("CanNot", {})
OLD = ((5, 0), 0, -1, 0, 0)
ERRAND = (("write", 1, 6), ("try", 1, 2), ("start",), ("sure",), ("floor",))
SOON = ERRAND[:3] + (("floor",), ("sure",))
WORDS = ("cut", "go", "tear")
FATES = ("lost", "stuck", "back", "done", "going")

SOME_ACTS = (
    ("write", 0, 2), ("write", 1, 2), ("write", 1, 1), ("try", 1, 1), ("try", 1, 2), ("try", 0, 3), ("start",), ("sure",),
    ("floor",),
)
SOME_DEVICES = (
    ((1, 0), 0, -1, 0, 0), ((1, 2), 0, -1, 0, 1), ((2, 1), 1, -1, 0, 0), ((1, 2), 0, 1, 2, 0), ((1, 2), 0, 1, 0, 0),
    ((1, 3), 0, 1, 1, 1), ((1, 1), 0, 0, 1, 1), ((3, 1), 0, 1, 1, 2),
)
BROKEN = (((0, 0), 0, -1, 0, 0), ((1, 2), 0, -1, 0, 2), ((0, 2), 0, 1, 1, 0))


def can_start(device, slot):
    return device[0][slot] >= max(1, device[4])


def boot(device):
    """The DEVICE behind a BOOT, what runs, and whether a trial is given up."""
    held, sure, trial, tries, floor = device
    if trial != -1 and tries and can_start(device, trial):
        return (held, sure, trial, tries - 1, floor), trial, False
    return (held, sure, -1, 0, floor), sure if can_start(device, sure) else -1, trial != -1


def booted(device, at):
    device, runs, given_up = boot(device)
    return (device, -1 if given_up else at, runs)


def written(device, slot, version):
    held = tuple(version if at == slot else old for at, old in enumerate(device[0]))
    return (held, *device[1:])


def behind(errand, faults, stand, event):
    """The STAND behind the EVENT; None if it can not be."""
    device, at, runs = stand
    held, sure, trial, tries, floor = device
    if runs == -1:
        return None
    if event == "cut":
        return booted(device, at)
    if at == -1 or at == len(errand) or held[runs] in faults:
        return None
    act, *told = errand[at]
    if event == "tear":
        return booted(written(device, told[0], 0), at) if act == "write" and told[0] != runs else None
    if act == "start":
        return booted(device, at + 1)
    if act == "write" and told[0] != runs:
        device = written(device, *told)
    if act == "try":
        device = (held, sure, *told, floor)
    if act == "sure":
        device = (held, runs, -1, 0, floor)
    if act == "floor":
        device = (held, sure, trial, tries, max(floor, held[runs]))
    return (device, at + 1, runs)


def come(errand, device, faults=()):
    """For each STAND that comes the shortest tuples of EVENTS to it, of these the least, and the fewest cuts and tears."""
    first = booted(device, 0)
    found = {first: ()}
    level = [first]
    while level:
        longer = {}
        for stand in level:
            for event in WORDS:
                other = behind(errand, faults, stand, event)
                if other is not None and other not in found:
                    path = (*found[stand], event)
                    longer[other] = min(path, longer.get(other, path))
        found.update(longer)
        level = list(longer)
    return found


def fewest_cuts(errand, device):
    """For each STAND that comes with how few cuts and tears."""
    cuts = {booted(device, 0): 0}
    changed = True
    while changed:
        changed = False
        for stand, many in list(cuts.items()):
            for event in WORDS:
                other = behind(errand, (), stand, event)
                more = many + (event != "go")
                if other is not None and more < cuts.get(other, more + 1):
                    cuts[other] = more
                    changed = True
    return cuts


def fate(errand, faults, stand):
    (held, _, trial, _, _), at, runs = stand
    if runs == -1:
        return "lost"
    if held[runs] in faults and trial == -1:
        return "stuck"
    if at == -1:
        return "back"
    return "done" if at == len(errand) and trial == -1 else "going"


def version(stand):
    return stand[0][0][stand[2]] if stand[2] != -1 else 0


def is_bad(errand, stand):
    (held, sure, _, _, _), at, runs = stand
    if runs in (-1, sure) or at in (-1, len(errand)):
        return False
    return errand[at][:2] == ("write", sure) or errand[at] == ("floor",) and held[runs] > held[sure]


def errands(most):
    for many in range(most + 1):
        yield from itertools.product(SOME_ACTS, repeat=many)


def cases():
    for device in SOME_DEVICES + BROKEN:
        yield from itertools.product([device], errands(2))
    for at, case in enumerate(itertools.product(SOME_DEVICES, itertools.product(SOME_ACTS, repeat=3))):
        if at % 7 == 0:
            yield case
    for at, case in enumerate(itertools.product(SOME_DEVICES, itertools.product(SOME_ACTS, repeat=4))):
        if at % 211 == 0:
            yield case
    yield from [(OLD, ERRAND), (OLD, SOON), (((5, 0, 7), 2, -1, 0, 6), (("write", 0, 9), ("try", 0, 1), ("start",), ("sure",)))]


def some_faults(errand, device):
    versions = {*device[0], *[act[2] for act in errand if act[0] == "write"]} - {0, device[0][device[1]]}
    return list(brute.subsets(sorted(versions)))


class KindTest(unittest.TestCase):
    def test_devices(self):
        parts = itertools.product([(1, 0), (0, 0, 9)], range(-2, 4), range(-2, 4), range(-1, 5), (-1, 0, 7))
        for held, sure, trial, tries, floor in parts:
            right = 0 <= sure < len(held) and -1 <= trial < len(held) and 0 <= tries <= 3 and floor >= 0
            right = right and (trial != -1 or tries == 0)
            self.assertEqual(slots.is_device((held, sure, trial, tries, floor)), right)
        for device in (OLD, ((1, 2, 3), 2, 1, 3, 10 ** 30)):
            self.assertTrue(slots.is_device(device))
            for thing in with_strange_parts(device) + list_at_each_depth(device) + [(*device, 0), device[:4]]:
                self.assertFalse(slots.is_device(thing), thing)
        wrong = [((5,), 0, -1, 0, 0), ((5, 0, 0, 0), 0, -1, 0, 0), ((5, -1), 0, -1, 0, 0), ((), 0, -1, 0, 0), (5, 0, -1, 0, 0),
                 ((5, 0), False, -1, 0, 0), ((5, 0), 0, -1, False, 0), ((5, 0), 0, -1, 0, False), ((5, True), 0, -1, 0, 0), nested(30)]
        for thing in STRANGE + wrong:
            self.assertFalse(slots.is_device(thing), thing)

    def test_errands(self):
        for many, device in ((2, OLD), (3, ((5, 0, 0), 0, -1, 0, 0))):
            for word in ("write", "try", "start", "sure", "floor", "go", ""):
                self.assertEqual(slots.is_errand(device, ((word,),)), word in ("start", "sure", "floor"))
                for slot, number in itertools.product(range(-2, 5), range(-1, 6)):
                    right = 0 <= slot < many and number >= 1 and (word == "write" or word == "try" and number <= 3)
                    self.assertEqual(slots.is_errand(device, ((word, slot, number),)), right)
        self.assertTrue(slots.is_errand(OLD, ()))
        self.assertTrue(slots.is_errand(OLD, (("start",),) * 1000))
        wrong = [(("write", 1, True),), (("write", True, 1),), (("try", 1),), (("write", 1, 6, 1),), (("start", 1),), ("start",),
                 (("start",), "sure"), (("start",), None), (["start"],), ((("start",),),), nested(30), (("sure", 0, 1),)]
        for thing in STRANGE + wrong + with_strange_parts(ERRAND) + list_at_each_depth(ERRAND):
            self.assertEqual(slots.is_errand(OLD, thing), thing == ())

    def test_starts(self):
        for device in SOME_DEVICES + BROKEN + (OLD, ((3, 0, 4), 0, 2, 3, 4)):
            many = len(device[0])
            for slot in range(many):
                self.assertEqual(slots.can_start(device, slot), can_start(device, slot))
            for slot in (-1, many, 10 ** 9):
                self.assertEqual(refusal(slots.can_start, device, slot), no_number(slot))
            for tries in range(4):
                if device[2] != -1 or tries == 0:
                    one = (*device[:3], tries, device[4])
                    self.assertEqual(slots.device_started(one), boot(one)[:2])
                    self.assertEqual(slots.first_stand(ERRAND, one), booted(one, 0))
                    self.assertEqual(slots.first_stand((), one), booted(one, 0))
        self.assertFalse(slots.can_start(OLD, 1))


class EventTest(unittest.TestCase):
    def test_stands_behind(self):
        for device, errand in cases():
            for faults in some_faults(errand, device):
                for stand in come(errand, device, faults):
                    for event in WORDS:
                        other = behind(errand, faults, stand, event)
                        if other is None:
                            told = refusal(slots.stand_behind, errand, faults, stand, event)
                            self.assertEqual(told, CAN_NOT)
                        else:
                            self.assertEqual(slots.stand_behind(errand, faults, stand, event), other)
                    self.assertEqual(slots.fate(errand, faults, stand), fate(errand, faults, stand))

    def test_stands_along(self):
        for device, errand in list(cases())[::40] + [(OLD, ERRAND)]:
            for faults in ((), (6,), (2,)):
                for many in range(4):
                    for events in itertools.product(WORDS, repeat=many):
                        stands = [booted(device, 0)]
                        for event in events:
                            stands.append(stands[-1] and behind(errand, faults, stands[-1], event))
                        if None in stands:
                            told = refusal(slots.stands_along, errand, device, faults, events)
                            self.assertEqual(told, CAN_NOT)
                        else:
                            self.assertEqual(slots.stands_along(errand, device, faults, events), stands)

    def test_what_comes(self):
        for device, errand in cases():
            stands = come(errand, device)
            told = slots.all_stands(errand, device)
            self.assertEqual(told, sorted(stands))
            told.append(None)
            self.assertEqual(slots.all_stands(errand, device), sorted(stands))
            for faults in some_faults(errand, device):
                found = {(fate(errand, faults, stand), version(stand)) for stand in come(errand, device, faults)}
                found = sorted(pair for pair in found if pair[0] != "going")
                self.assertEqual(slots.ends_with(errand, device, faults), tuple(found))
                self.assertEqual(slots.fates(errand, device, faults), tuple(sorted({word for word, _ in found})))
                self.assertLessEqual(set(come(errand, device, faults)), set(stands))

    def test_lost(self):
        for device, errand in cases():
            stands = come(errand, device)
            lost = [(len(path), path) for stand, path in stands.items() if stand[2] == -1]
            self.assertEqual(slots.is_safe(errand, device), lost == [])
            self.assertEqual(slots.lost_events(errand, device), min(lost)[1] if lost else None)
            bad = {stand[1] for stand in stands if is_bad(errand, stand)}
            self.assertEqual(slots.bad_acts(errand, device), tuple(sorted(bad)))
            if can_start(device, device[1]):
                self.assertEqual(lost == [], bad == set())

    def test_cuts(self):
        for device, errand in cases():
            cuts = fewest_cuts(errand, device)
            for word in (*FATES, "", "x"):
                found = [many for stand, many in cuts.items() if fate(errand, (), stand) == word]
                self.assertEqual(slots.fewest_cuts(errand, device, word), min(found, default=None))

    def test_left_versions(self):
        for device, errand in cases():
            left = set()
            for stand in come(errand, device):
                if fate(errand, (), stand) == "done":
                    left |= {held for slot, held in enumerate(stand[0][0]) if can_start(stand[0], slot)}
            self.assertEqual(slots.left_versions(errand, device), tuple(sorted(left)))


class PaperTest(unittest.TestCase):
    def test_stuck(self):
        some = 0
        for device, errand in cases():
            stuck = any(fate(errand, faults, stand) == "stuck" for faults in some_faults(errand, device)
                        for stand in come(errand, device, faults))
            told = slots.stuck_run(errand, device)
            self.assertEqual(told is not None, stuck)
            self.assertEqual(slots.stuck_run(errand, device), told)
            if told is not None:
                some += 1
                faults, events = told
                self.assertNotIn(device[0][device[1]], faults)
                self.assertEqual(slots.fate(errand, faults, slots.stands_along(errand, device, faults, events)[-1]), "stuck")
                self.assertTrue(slots.is_stuck_run(errand, device, told))
            elif can_start(device, device[1]) and not slots.bad_acts(errand, device):
                self.assertFalse(stuck)
        self.assertGreater(some, 10)

    def test_is_stuck_run(self):
        cases_here = [(((1, 2), 0, 1, 1, 0), (("write", 0, 3), ("write", 0, 6))), (OLD, SOON)]
        cases_here += [(((0, 2), 0, 1, 1, 0), (("write", 0, 3), ("write", 0, 6)))]
        some = 0
        for device, errand in cases_here:
            for faults in [(), (1,), (2,), (3,), (4,), (5,), (6,), (1, 3), (2, 3), (3, 9), (6, 7), (0, 3), (3, 2)]:
                for many in range(5):
                    for events in itertools.product(("cut", "go", "tear", "x"), repeat=many):
                        stand = booted(device, 0)
                        for event in events:
                            stand = stand and event != "x" and behind(errand, faults, stand, event)
                        right = bool(stand) and fate(errand, faults, stand) == "stuck" and device[0][device[1]] not in faults
                        right = right and 0 not in faults and faults != (3, 2)
                        some += right
                        self.assertEqual(slots.is_stuck_run(errand, device, (faults, events)), right)
        self.assertGreater(some, 10)

    def test_no_stuck_run(self):
        device = ((1, 2), 0, 1, 1, 0)
        errand = (("write", 0, 1), ("write", 0, 3))
        told = slots.stuck_run(errand, device)
        self.assertTrue(slots.is_stuck_run(errand, device, told))
        wrong = [((True,), told[1]), (told[0], list(told[1])), (list(told[0]), told[1]), list(told), (*told, ()), told[:1], nested(30)]
        for thing in STRANGE + wrong + with_strange_parts(told) + list_at_each_depth(told):
            self.assertFalse(slots.is_stuck_run(errand, device, thing), thing)
        self.assertFalse(slots.is_stuck_run(errand, device, (told[0], told[1] + ("fly",))))

    def test_keeps(self):
        for device, errand in cases():
            told = slots.keep(errand, device)
            self.assertEqual(told is not None, slots.is_safe(errand, device))
            if told is not None:
                self.assertTrue(is_keep(errand, device, told))
                self.assertTrue(slots.is_keep(errand, device, told))
                self.assertEqual(slots.keep(errand, device), told)
            else:
                self.assertFalse(slots.is_keep(errand, device, tuple(slots.all_stands(errand, device))))

    def test_is_keep(self):
        device = ((1, 0), 0, -1, 0, 0)
        errand = (("write", 1, 2), ("floor",))
        held = list(itertools.product((0, 1, 2), repeat=2))
        stands = [((one, 0, -1, 0, floor), at, 0) for one in held[:6] for floor in (0, 1) for at in (-1, 0, 1, 2)]
        stands += [(((1, 2), 0, 1, 1, 1), 2, 0), (((1, 2), 0, 1, 0, 1), 2, 1), (((0, 0), 0, -1, 0, 0), 0, -1)]
        right = set(come(errand, device))
        for size in range(3):
            for more in itertools.combinations(stands, size):
                thing = tuple(sorted({*right, *more}))
                self.assertEqual(slots.is_keep(errand, device, thing), is_keep(errand, device, thing))
        for one in right:
            self.assertFalse(slots.is_keep(errand, device, tuple(sorted(right - {one}))))
        thing = tuple(sorted(right))
        self.assertTrue(slots.is_keep(errand, device, thing))
        wrong = [thing[::-1], (*thing, thing[-1]), thing[:1] + thing, list(thing), nested(30), (*thing, 1)]
        wrong += [(*thing, (device, 0))]
        far = ((9, 0), 0, -1, 0, 9)
        # Behind all others, so in order; cut leads from each to itself.
        wrong += [(*thing, (far, 3, 0)), (*thing, (far, -2, 0)), (*thing, (far, 2, 2)), (*thing, (far, 2, -1))]
        wrong += [(*thing, (far, 2, -2)), (*thing, (((9, 0), 0, -1, 1, 9), 2, 0))]
        wrong += [(*thing, (((9, 0, 0), 0, -1, 0, 9), 2, 0))]
        for other in STRANGE + wrong + with_strange_parts(thing) + list_at_each_depth(thing):
            self.assertFalse(slots.is_keep(errand, device, other), other)
        self.assertTrue(slots.is_keep(errand, device, (*thing, (far, 2, 0))))

    def test_no_truth_for_numbers(self):
        device = ((1, 0), 0, -1, 0, 0)
        thing = slots.keep((("floor",),), device)
        self.assertEqual(thing, ((device, 0, 0), (((1, 0), 0, -1, 0, 1), 1, 0)))
        self.assertFalse(slots.is_keep((("floor",),), device, (thing[0], (thing[1][0], True, 0))))
        self.assertFalse(slots.is_keep((("floor",),), device, ((device, 0, False), thing[1])))


def is_keep(errand, device, stands):
    if booted(device, 0) not in stands or any(stand[2] == -1 for stand in stands):
        return False
    others = [behind(errand, (), stand, event) for stand in stands for event in WORDS]
    return all(other is None or other in stands for other in others)


def brings(errand, device, wanted):
    """Whether this safe ERRAND brings the version to run from the sure slot."""
    stands = come(errand, device)
    done = [stand for stand in stands if fate(errand, (), stand) == "done"]
    if not done or any(stand[2] == -1 for stand in stands):
        return False
    return all(stand[2] == stand[0][1] and version(stand) == wanted for stand in done)


class ErrandTest(unittest.TestCase):
    devices = (
        ((1, 0), 0, -1, 0, 0), ((1, 2), 0, -1, 0, 1), ((2, 1), 1, -1, 0, 0), ((2, 2), 1, -1, 0, 2), ((1, 3), 1, -1, 0, 2),
        ((5, 0, 2), 0, -1, 0, 0), ((2, 3, 2), 1, -1, 0, 2),
    )

    def test_errand_for(self):
        for device in self.devices:
            many = len(device[0])
            acts = [("write", slot, number) for slot in range(many) for number in (1, 2)]
            acts += [("try", slot, tries) for slot in range(many) for tries in (1, 2)] + [("start",), ("sure",), ("floor",)]
            shorter = [errand for length in range(3) for errand in itertools.product(acts, repeat=length)]
            for wanted in range(1, 7):
                told = slots.errand_for(device, wanted)
                self.assertEqual(told is None, wanted < device[4])
                self.assertEqual(slots.errand_for(device, wanted), told)
                if told is None:
                    self.assertFalse(any(brings(errand, device, wanted) for errand in shorter))
                    continue
                self.assertTrue(slots.is_errand(device, told))
                self.assertTrue(brings(told, device, wanted))
                self.assertTrue(slots.is_errand_for(device, wanted, told))
                for errand in shorter:
                    right = len(errand) == len(told) and brings(errand, device, wanted)
                    self.assertEqual(slots.is_errand_for(device, wanted, errand), right)
                    self.assertFalse(len(errand) < len(told) and brings(errand, device, wanted))

    def test_none_is_shorter(self):
        device = ((5, 0), 0, -1, 0, 0)
        acts = [("write", 0, 6), ("write", 1, 6), ("try", 0, 1), ("try", 1, 1), ("try", 1, 2), ("start",), ("sure",), ("floor",)]
        self.assertEqual(len(slots.errand_for(device, 6)), 4)
        for errand in itertools.product(acts, repeat=3):
            self.assertFalse(brings(errand, device, 6))
        right = [errand for errand in itertools.product(acts, repeat=4) if brings(errand, device, 6)]
        self.assertIn(slots.errand_for(device, 6), right)
        for errand in itertools.islice(itertools.product(acts, repeat=4), 0, None, 3):
            self.assertEqual(slots.is_errand_for(device, 6, errand), errand in right)
        for errand in right:
            self.assertTrue(slots.is_errand_for(device, 6, errand))

    def test_a_version_that_is_there(self):
        device = ((1, 2), 0, -1, 0, 1)
        acts = [("write", slot, 2) for slot in (0, 1)] + [("try", 0, 1), ("try", 1, 1), ("try", 1, 2)]
        acts += [("start",), ("sure",), ("floor",)]
        right = [errand for errand in itertools.product(acts, repeat=3) if brings(errand, device, 2)]
        self.assertIn(slots.errand_for(device, 2), right)
        for errand in itertools.product(acts, repeat=3):
            self.assertEqual(slots.is_errand_for(device, 2, errand), errand in right)
        three = [(((5, 0, 2), 0, -1, 0, 0), 2), (((2, 3, 2), 1, -1, 0, 2), 2), (((9, 8), 1, -1, 0, 0), 9)]
        for device, wanted in three:
            self.assertEqual(len(slots.errand_for(device, wanted)), 3)

    def test_no_errands_for(self):
        right = ERRAND[:4]
        self.assertTrue(slots.is_errand_for(OLD, 6, right))
        self.assertFalse(slots.is_errand_for(OLD, 6, ERRAND))
        for thing in STRANGE + with_strange_parts(right) + list_at_each_depth(right) + [nested(30), right * 200]:
            self.assertFalse(slots.is_errand_for(OLD, 6, thing))
        self.assertFalse(slots.is_errand_for(OLD, 7, right))
        self.assertTrue(slots.is_errand_for(OLD, 5, ()))
        self.assertFalse(slots.is_errand_for(OLD, 5, []))
        low = ((5, 0), 0, -1, 0, 5)
        self.assertIsNone(slots.errand_for(low, 4))
        self.assertFalse(slots.is_errand_for(low, 4, (("write", 1, 4), ("try", 1, 1), ("start",), ("sure",))))


if __name__ == "__main__":
    unittest.main()
