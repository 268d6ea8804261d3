"""For each function of rollouts, fleets, paces and watch its parameters and samples of arguments."""

from atanywrite import fleets, paces, rollouts, watch
from tests.common import ROW, STILL

CLASSES = (("a", 1), ("b", 1), ("c", 5), ("d", 5))
QUICK = ((0, "c", 1), (0, "d", 1), (10, "a", 1), (10, "b", 1), (10, "c", 4), (10, "d", 4))
RASH = ((0, "c", 3), (4, "a", 1))

ROLLOUTS = {
    rollouts.is_classes: (("thing",), [(CLASSES,), (1,)]),
    rollouts.is_rollout: (("classes", "thing"), [(CLASSES, QUICK), (CLASSES, 1)]),
    rollouts.is_whole: (("classes", "rollout"), [(CLASSES, QUICK), (CLASSES, RASH), ((), ())]),
    rollouts.begin_of: (("rollout", "name"), [(RASH, "a"), (RASH, "b")]),
    rollouts.left_of: (("classes", "rollout", "name"), [(CLASSES, RASH, "c"), (CLASSES, RASH, "x")]),
    rollouts.last_start: (("rollout",), [(QUICK,), ((),)]),
    rollouts.stop_of: (("rollout", "delay", "bad"), [(QUICK, 10, ("c",)), (QUICK, 10, ()), (RASH, 10, ("b", "x"))]),
    rollouts.done_by: (("rollout", "delay", "bad"), [(QUICK, 10, ("c",)), (QUICK, 10, ()), (RASH, 10, ("b", "x"))]),
    rollouts.harmed_of: (("rollout", "delay", "bad"), [(QUICK, 10, ("a", "b")), (QUICK, 10, ()), (RASH, 10, ("x",))]),
    rollouts.harm: (("rollout", "delay", "bad"), [(QUICK, 10, ("a", "c")), (QUICK, 10, ()), (RASH, 10, ("x",))]),
    rollouts.well_at: (("rollout", "delay", "moment"), [(QUICK, 10, 10), ((), 1, 0)]),
    rollouts.begin_counts: (("rollout", "delay"), [(QUICK, 10), ((), 1)]),
    rollouts.worst_harm: (("rollout", "delay"), [(QUICK, 10), ((), 1)]),
    rollouts.worst_bad: (("rollout", "delay"), [(RASH, 10), ((), 1)]),
    rollouts.is_mild: (("rollout", "delay", "most"), [(RASH, 10, 3), (RASH, 4, 3)]),
    rollouts.over: (("rollout", "delay", "most"), [(RASH, 10, 3), (RASH, 4, 3)]),
    rollouts.is_over: (("rollout", "delay", "most", "thing"), [(RASH, 10, 3, (0, ("a", "c"))), (RASH, 10, 3, 1)]),
    rollouts.may_start: (
        ("classes", "rollout", "delay", "most", "moment", "name"),
        [(CLASSES, RASH, 4, 3, 4, "c"), (CLASSES, RASH, 10, 3, 4, "c"), (CLASSES, RASH, 10, 3, 4, "x")],
    ),
    rollouts.tamed: (("rollout", "delay", "most"), [(RASH, 10, 3), (QUICK, 11, 2)]),
    rollouts.soonest_end: (("classes", "delay", "most"), [(CLASSES, 10, 2), (CLASSES, 10, 0), ((), 10, 0)]),
    rollouts.quickest: (("classes", "delay", "most"), [(CLASSES, 10, 2), (CLASSES, 10, 0), ((), 10, 0)]),
    rollouts.is_quickest: (("classes", "delay", "most", "thing"), [(CLASSES, 10, 2, QUICK), (CLASSES, 10, 2, 1)]),
    rollouts.least_most: (("classes", "delay", "moment"), [(CLASSES, 10, 10), ((), 10, 0)]),
    rollouts.as_one: (("classes", "one", "other"), [(CLASSES, "c", "a"), (CLASSES, "x", "a"), (CLASSES, "c", "c")]),
    rollouts.starts_as_one: (("rollout", "one", "other"), [(QUICK, "c", "d"), (RASH, "c", "b"), (RASH, "a", "a")]),
}

FLEET = (("ann", "old", (0,)), ("bob", "old", (2, 5)), ("cy", "new", (3,)), ("dan", "new", (4, 6)))
TIMING = (0, 2, 3, 4)
LATES = (3, 3, 3, 3)
CASE = (TIMING, ("old",))
BOTH = ("new", "old")

FLEETS = {
    fleets.is_fleet: (("thing",), [(FLEET,), (1,)]),
    fleets.is_timing: (("fleet", "thing"), [(FLEET, TIMING), (FLEET, 1)]),
    fleets.devices_of: (("fleet", "name"), [(FLEET, "new"), (FLEET, "ann")]),
    fleets.surely_begun: (("fleet", "moment"), [(FLEET, 4), (FLEET, 0)]),
    fleets.maybe_begun: (("fleet", "moment"), [(FLEET, 4), (FLEET, 0)]),
    fleets.awake_from: (("fleet", "device", "moment"), [(FLEET, "bob", 3), (FLEET, "cy", 4), (FLEET, "x", 9)]),
    fleets.stopped_at: (
        ("fleet", "timing", "lates", "bad"),
        [(FLEET, TIMING, LATES, BOTH), (FLEET, TIMING, LATES, ()), (FLEET, TIMING, LATES, ("old", "x"))],
    ),
    fleets.harmed: (
        ("fleet", "timing", "lates", "bad"),
        [(FLEET, TIMING, LATES, BOTH), (FLEET, TIMING, LATES, ()), (FLEET, TIMING, LATES, ("old", "x"))],
    ),
    fleets.fleet_counts: (("fleet", "delay"), [(FLEET, 3), (FLEET, 1)]),
    fleets.most_harmed: (("fleet", "delay"), [(FLEET, 3), (FLEET, 9)]),
    fleets.harms_at_most: (("fleet", "delay", "many"), [(FLEET, 3, 2), (FLEET, 3, 1)]),
    fleets.worst_case: (("fleet", "delay"), [(FLEET, 3), (FLEET, 9)]),
    fleets.is_worst_case: (("fleet", "delay", "thing"), [(FLEET, 3, CASE), (FLEET, 3, 1)]),
    fleets.case_above: (("fleet", "delay", "many"), [(FLEET, 3, 1), (FLEET, 3, 2)]),
    fleets.is_case_above: (("fleet", "delay", "many", "thing"), [(FLEET, 3, 1, CASE), (FLEET, 3, 1, 1)]),
    fleets.greatest_delay: (("fleet", "many"), [(FLEET, 2), (FLEET, 4), (FLEET, 0)]),
}

PACES_OF_TWO = (("ann", ((1, 4), (6, 9))), ("bob", ((5, 5),)))

PACES = {
    paces.is_paces: (("thing",), [(PACES_OF_TWO,), (1,)]),
    paces.may_have: (("paces", "device", "moment"), [(PACES_OF_TWO, "ann", 3), (PACES_OF_TWO, "x", 3)]),
    paces.surely_has: (("paces", "device", "moment"), [(PACES_OF_TWO, "ann", 5), (PACES_OF_TWO, "ann", 3), (PACES_OF_TWO, "x", 3)]),
    paces.may_meet: (("paces", "one", "other"), [(PACES_OF_TWO, "ann", "bob"), (PACES_OF_TWO, "x", "x"), (PACES_OF_TWO, "ann", "ann")]),
    paces.meeting: (
        ("paces", "one", "other", "pair"),
        [(PACES_OF_TWO, "ann", "bob", (1, 0)), (PACES_OF_TWO, "ann", "bob", (9, -1)), (PACES_OF_TWO, "ann", "x", (0, 0))],
    ),
    paces.met_in_all: (("paces",), [(PACES_OF_TWO,), (PACES_OF_TWO[:1],)]),
    paces.widest: (("paces",), [(PACES_OF_TWO,), (PACES_OF_TWO[:1],)]),
    paces.is_mixed_well: (("paces", "pairs"), [(PACES_OF_TWO, ((0, 0), (0, 1), (1, 1), (1, 2))), (PACES_OF_TWO, ((0, 0),))]),
}

WATCH = {
    watch.words_for: (("row", "play"), [(ROW, (2, 1)), (STILL, ())]),
    watch.is_words: (("row", "thing"), [(ROW, ("do", "lose", "do")), (ROW, 1)]),
}

SAMPLES_OF_FLEETS = {**ROLLOUTS, **FLEETS, **PACES, **WATCH}
LISTED_OF_FLEETS = {rollouts: 25, fleets: 16, paces: 8, watch: 2}
