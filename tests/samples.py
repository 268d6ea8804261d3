"""For each function of the interface its parameters and samples of arguments; those called thing keep their tuples."""

from atanywrite import arranging, desk, images, losses, marks, orders, plans, rows, slots, terms, texts
from tests.common import CHANGE, FULL, ROW, SINGLE, STILL
from tests.samples_board import LISTED_OF_BOARD, SAMPLES_OF_BOARD
from tests.samples_fleets import LISTED_OF_FLEETS, SAMPLES_OF_FLEETS

MOVE = ("h", ("a", "b"), "b")
SMALL = (("a",), ("a",), (("f", (), "a"), ("g", ("a",), "a")), (1,))

TALE = (
    ("a", "b", "c"),
    ("a", "c"),
    (("f", ("a",), "b"), ("copy", ("b",), "c"), ("g", ("a", "c"), "a"), ("h", ("b",), "b")),
    (2,),
)
SWAP = (("a", "b", "t"), ("a", "b"), (("copy", ("a",), "t"), ("copy", ("b",), "a"), ("copy", ("t",), "b")), ())
SURE = SWAP[:3] + ((1, 2),)
TERM = ("f", (("old", "a"), ("g", (("spoilt", 1), ("old", "b")))))
RING = (("p", "q", "r"), (("f", ("p", "q")), ("f", ("q", "r")), ("f", ("r", "p"))))
ORDER = ("c", "b", "a", "d")

ROWS_AND_TEXTS = {
    rows.is_row: (("thing",), [(ROW,), (1,)]),
    rows.is_move: (("row", "thing"), [(ROW, MOVE), (ROW, 1)]),
    rows.is_change: (("thing",), [(CHANGE,), ("x",)]),
    rows.is_order: (("change", "thing"), [(CHANGE, ("b", "a", "d", "c")), (CHANGE, None)]),
    rows.spots: (("row",), [(ROW,), (STILL,)]),
    rows.stretches: (("row",), [(ROW,), (STILL,)]),
    rows.stretch_of: (("row", "number"), [(ROW, 2), (ROW, 3)]),
    rows.is_marked: (("row", "number"), [(ROW, 1), (ROW, 2)]),
    rows.readers: (("row", "cell"), [(ROW, "a"), (ROW, "x")]),
    rows.writers: (("row", "cell"), [(ROW, "a"), (ROW, "x")]),
    rows.read_cells: (("row",), [(ROW,), (STILL,)]),
    rows.written_cells: (("row",), [(ROW,), (STILL,)]),
    rows.functions: (("row",), [(ROW,), (STILL,)]),
    rows.with_move: (("row", "number", "move"), [(ROW, 1, MOVE), (STILL, 0, MOVE), (ROW, 9, MOVE)]),
    rows.without_move: (("row", "number"), [(ROW, 1), (SINGLE, 0), (ROW, 3)]),
    rows.swapped: (("row", "number"), [(ROW, 1), (ROW, 2)]),
    rows.with_mark: (("row", "number"), [(ROW, 2), (ROW, 1)]),
    rows.without_mark: (("row", "number"), [(ROW, 1), (ROW, 2)]),
    rows.all_marked: (("row",), [(ROW,), (STILL,)]),
    rows.unmarked: (("row",), [(ROW,), (STILL,)]),
    rows.with_cell: (("row", "cell"), [(ROW, "c"), (ROW, "a")]),
    rows.without_cell: (("row", "cell"), [(STILL, "a"), (ROW, "a"), (ROW, "x")]),
    rows.with_wanted: (("row", "cells"), [(ROW, ("s",)), (ROW, ()), (ROW, ("a", "x"))]),
    rows.renamed: (("row", "cell", "new"), [(ROW, "a", "z"), (ROW, "x", "y"), (ROW, "a", "a"), (ROW, "a", "A")]),
    rows.joined: (("row", "other"), [(ROW, SMALL), (SMALL, ROW), (STILL, SMALL)]),
    rows.cut: (("row", "number"), [(ROW, 1), (ROW, 4)]),
    texts.names_text: (("names",), [(("a", "b"),), ((),)]),
    texts.numbers_text: (("numbers",), [((1, 0),), ((),)]),
    texts.moves_text: (("moves",), [(ROW[2],), ((),)]),
    texts.row_text: (("row",), [(ROW,), (FULL,), (STILL,)]),
    texts.names_from: (("text",), [("a b",), ("-",), ("",)]),
    texts.numbers_from: (("text",), [("1 0",), ("-",), ("",)]),
    texts.row_from: (("text",), [("cells a; wanted a; f to a",), ("cells a",), ("cells a; wanted b",)]),
}

TERMS = {
    terms.contents_at: (("row", "spot"), [(TALE, 4), (STILL, 0), (TALE, 5)]),
    terms.content: (("row", "cell", "spot"), [(TALE, "c", 2), (TALE, "x", 2), (TALE, "c", -1)]),
    terms.end_terms: (("row",), [(TALE,), (STILL,)]),
    terms.written_by: (("row", "cell", "spot"), [(TALE, "c", 2), (TALE, "c", 1), (TALE, "x", 1)]),
    terms.next_write: (("row", "cell", "spot"), [(TALE, "c", 0), (TALE, "c", 2), (TALE, "a", 5)]),
    terms.sources: (("row", "number"), [(TALE, 2), (TALE, 4)]),
    terms.writes_for: (("row", "number"), [(TALE, 0), (TALE, 4)]),
    terms.counting: (("row",), [(TALE,), (STILL,)]),
    terms.move_counts: (("row", "number"), [(TALE, 0), (TALE, 3), (TALE, 4)]),
    terms.dead_moves: (("row",), [(TALE,), (STILL,)]),
    terms.why: (("row", "number"), [(TALE, 0), (TALE, 3), (TALE, 4)]),
    terms.is_why: (("row", "number", "thing"), [(TALE, 0, (0, 1)), (TALE, 0, None), (TALE, 4, ())]),
    terms.last_use: (("row", "number"), [(TALE, 0), (TALE, 3), (TALE, 4)]),
    terms.old_needed: (("row",), [(TALE,), (STILL,)]),
    terms.old_lost: (("row", "spot"), [(TALE, 4), (TALE, 5)]),
    terms.alike_cells: (("row", "cell", "spot"), [(TALE, "c", 2), (TALE, "x", 2), (TALE, "c", 5)]),
    terms.names_needed: (("row",), [(TALE,), (STILL,)]),
    terms.lean: (("row",), [(TALE,), (STILL,)]),
    terms.ends_alike: (("row", "other"), [(TALE, TALE), (TALE, ROW)]),
    terms.free_swaps: (("row",), [(TALE,), (STILL,)]),
    terms.swap_free: (("row", "number"), [(TALE, 2), (TALE, 0), (TALE, 4)]),
    terms.is_led_to: (("row", "other"), [(TALE, TALE), (TALE, ROW)]),
    terms.is_term: (("thing",), [(TERM,), (1,)]),
    terms.term_cells: (("one",), [(TERM,)]),
    terms.term_names: (("one",), [(TERM,)]),
    terms.term_losses: (("one",), [(TERM,)]),
    terms.term_size: (("one",), [(TERM,)]),
    terms.term_depth: (("one",), [(TERM,)]),
    terms.part_of: (("one", "path"), [(TERM, (1, 0)), (TERM, ()), (TERM, (2,))]),
    terms.first_unlike: (("one", "two"), [(TERM, TERM), (TERM, TERM[1][1]), (TERM, ("f", (TERM, TERM[1][1])))]),
}

LOSSES = {
    losses.goes_on_from: (("row", "number"), [(SURE, 2), (SURE, 3)]),
    losses.is_play: (("row", "thing"), [(SURE, (1, 1, 2)), (SURE, "a")]),
    losses.begun: (("row", "play"), [(SWAP, (2, 1)), (STILL, ())]),
    losses.play_from: (("row", "numbers"), [(SWAP, (0, 1, 0, 1, 2)), (SWAP, (0, 2))]),
    losses.most_begun: (("row", "number"), [(SWAP, 2), (STILL, 2)]),
    losses.contents_along: (("row", "play"), [(SWAP, (2, 1)), (STILL, ())]),
    losses.end_of: (("row", "play"), [(SWAP, (2, 1)), (STILL, ())]),
    losses.ends_by: (("row", "number"), [(SWAP, 2), (STILL, 0)]),
    losses.hazards: (("row",), [(SWAP,), (SURE,)]),
    losses.is_hazard: (("row", "thing"), [(SWAP, (0, "a", 1)), (SURE, 0)]),
    losses.keeps: (("row",), [(SWAP,), (SURE,)]),
    losses.losses_against: (("row",), [(SWAP,), (SURE,)]),
    losses.read_first: (("row", "number"), [(SWAP, 0), (SWAP, 1)]),
    losses.written_in: (("row", "number"), [(SWAP, 0), (SWAP, 1)]),
    losses.who_reads_first: (("row", "number", "cell"), [(SWAP, 0, "a"), (SWAP, 1, "x"), (SWAP, 1, "a")]),
    losses.keep_paper: (("row",), [(SWAP,), (SURE,)]),
    losses.is_keep_paper: (("row", "thing"), [(STILL, ()), (SURE, 1)]),
    losses.harm_paper: (("row",), [(SWAP,), (SURE,)]),
    losses.is_harm_paper: (("row", "thing"), [(SWAP, ((0, "a", 1), "b")), (SURE, 1)]),
    losses.can_differ: (("row", "spot"), [(SWAP, 3), (SWAP, 2)]),
    losses.loss_for: (("row", "cell"), [(SWAP, "a"), (SURE, "a"), (SWAP, "x")]),
    losses.fewest_losses: (("row", "some"), [(SWAP, ("a", "b")), (SURE, ("a",)), (SURE, ("a", "x"))]),
}

MARKS = {
    marks.wants: (("row",), [(SWAP,), (STILL,)]),
    marks.are_met: (("row", "marks"), [(SWAP, (1, 2)), (SWAP, (1,)), (SWAP, (3,))]),
    marks.unmet: (("row", "marks"), [(SWAP, (1, 2)), (SWAP, (1,)), (SWAP, (3,))]),
    marks.far_ends: (("row",), [(SWAP,), (STILL,)]),
    marks.span_holds: (("row", "first", "end"), [(SWAP, 0, 1), (SWAP, 1, 1), (SWAP, 4, -1)]),
    marks.is_marking: (("row", "thing"), [(SWAP, (1, 2)), (SWAP, 1)]),
    marks.all_markings: (("row",), [(TALE,), (STILL,)]),
    marks.how_many_markings: (("row",), [(TALE,), (STILL,)]),
    marks.fewest_marking: (("row",), [(SWAP,), (STILL,)]),
    marks.fewest_marks: (("row",), [(SWAP,), (STILL,)]),
    marks.from_end: (("row",), [(SWAP,), (STILL,)]),
    marks.heights: (("row",), [(SWAP,), (STILL,)]),
    marks.is_heights: (("row", "thing"), [(SWAP, (0, 1, 2, 3)), (SWAP, 1)]),
    marks.bar: (("row",), [(SWAP,), (TALE,)]),
    marks.is_bar: (("row", "thing"), [(SWAP, (0, 1)), (TALE, 1)]),
    marks.in_all: (("row",), [(SWAP,), (TALE,)]),
    marks.in_none: (("row",), [(SWAP,), (TALE,)]),
    marks.cheapest_marking: (("row", "prices"), [(SWAP, (2, 1)), (TALE, (1, 2, 3)), (SWAP, (1,))]),
    marks.idle_marks: (("row",), [(SWAP,), (SURE,)]),
    marks.helping_marks: (("row",), [(SWAP,), (SWAP[:3] + ((2,),),)]),
    marks.spoiling_marks: (("row",), [(SWAP,), (SURE,)]),
    marks.least_more: (("row",), [(SWAP,), (TALE,)]),
}

ORDERS = {
    orders.reads_of: (("change", "block"), [(CHANGE, "c"), (CHANGE, "x")]),
    orders.readers_of: (("change", "block"), [(CHANGE, "b"), (CHANGE, "x")]),
    orders.term_of: (("change", "block"), [(CHANGE, "c"), (CHANGE, "x")]),
    orders.needed_behind: (("change", "some"), [(CHANGE, ("c",)), (CHANGE, ("x",))]),
    orders.let_go: (("change", "some", "block"), [(CHANGE, ("c",), "a"), (CHANGE, ("c",), "c"), (CHANGE, ("x",), "y")]),
    orders.held_at: (("change", "some", "block"), [(CHANGE, ("c",), "a"), (CHANGE, ("c",), "c"), (CHANGE, ("x",), "y")]),
    orders.let_next: (("change", "some", "spares"), [(CHANGE, ("c",), 1), (CHANGE, ("c",), 0), (CHANGE, ("x",), 0)]),
    orders.can_go_on: (("change", "some", "spares"), [(CHANGE, ("c",), 1), (CHANGE, ("c",), 0), (CHANGE, ("x",), 0)]),
    orders.needs_along: (("change", "order"), [(CHANGE, ORDER), (CHANGE, ("a",)), (CHANGE, ("a", "x"))]),
    orders.spares_for: (("change", "order"), [(CHANGE, ORDER), (CHANGE, ("a",)), (CHANGE, ("a", "x"))]),
    orders.is_right: (("change", "order", "spares"), [(CHANGE, ORDER, 1), (CHANGE, ORDER, 0), (CHANGE, ("x",), 0)]),
    orders.tight_places: (("change", "order"), [(CHANGE, ORDER), (CHANGE, ("a",)), (CHANGE, ("a", "x"))]),
    orders.least_spares: (("change",), [(CHANGE,), (RING,)]),
    orders.best_order: (("change",), [(CHANGE,), (RING,)]),
    orders.right_orders: (("change", "spares"), [(CHANGE, 1), (RING, 1), (RING, 0)]),
    orders.how_many_right: (("change", "spares"), [(CHANGE, 1), (RING, 1), (RING, 0)]),
    orders.nth_right: (("change", "spares", "number"), [(CHANGE, 1, 3), (RING, 1, 0), (RING, 0, 0)]),
    orders.made_sets: (("change", "spares"), [(CHANGE, 1), (RING, 1), (RING, 0)]),
    orders.stuck_sets: (("change", "spares"), [(CHANGE, 1), (RING, 1), (RING, 0)]),
    orders.fence: (("change", "spares"), [(CHANGE, 1), (RING, 1), (RING, 0)]),
    orders.is_fence: (("change", "spares", "thing"), [(RING, 1, ((), ("p",), ("q",), ("r",))), (RING, 1, 1), (RING, 0, 1)]),
    orders.turned: (("change", "order", "number"), [(CHANGE, ORDER, 1), (CHANGE, ORDER, 3), (CHANGE, ("a",), 0)]),
    orders.saving_turns: (("change", "order"), [(CHANGE, ("a", "b", "c", "d")), (CHANGE, ("a",))]),
    orders.goes_behind: (("change",), [(CHANGE,), (RING,)]),
    orders.keeps_behind: (("change", "order"), [(CHANGE, ORDER), (CHANGE, ("a",)), (CHANGE, ("a", "x"))]),
    orders.order_behind: (("change",), [(CHANGE,), (RING,)]),
    orders.beside: (("one", "other"), [(CHANGE, RING), (CHANGE, CHANGE)]),
    orders.with_recipe: (
        ("change", "block", "recipe"),
        [(CHANGE, "a", ("f", ("a", "b"))), (CHANGE, "a", ("F", ())), (CHANGE, "x", ("f", ()))],
    ),
}

EXCHANGE = (("a", "b"), (("f", ("a", "b")), ("g", ("b",))))
PLAN = (
    ("a", "b", "x"),
    ("a", "b"),
    (("f", ("a", "b"), "x"), ("g", ("b",), "a"), ("copy", ("a",), "b"), ("copy", ("x",), "a")),
    (1, 2, 3),
)
X = ("x",)
NO_PLAN = PLAN[:3] + ((),)
FULL_UP = (("a", "b"), (("f", ("a", "b")), ("g", ("a", "b"))))
AB = ("a", "b")

PLANS = {
    plans.goal_of: (("change",), [(EXCHANGE,), (CHANGE,)]),
    plans.stays: (("change",), [(EXCHANGE,), (CHANGE,)]),
    plans.made_blocks: (("change",), [(EXCHANGE,), (CHANGE,)]),
    plans.minds: (("change", "block"), [(EXCHANGE, "a"), (EXCHANGE, "x")]),
    plans.is_saved_enough: (("change", "some"), [(EXCHANGE, AB), (EXCHANGE, ("a",)), (EXCHANGE, ())]),
    plans.least_saved: (("change",), [(EXCHANGE,), (CHANGE,)]),
    plans.plan_faults: (("change", "spares", "row"), [(EXCHANGE, X, PLAN), (EXCHANGE, X, NO_PLAN), (EXCHANGE, X, ROW)]),
    plans.is_plan: (("change", "spares", "thing"), [(EXCHANGE, X, PLAN), (EXCHANGE, X, 1)]),
    plans.order_of_plan: (("change", "spares", "row"), [(EXCHANGE, X, PLAN), (EXCHANGE, X, NO_PLAN)]),
    plans.goes_by: (("change", "spares", "row", "order"), [(EXCHANGE, X, PLAN, AB), (EXCHANGE, X, NO_PLAN, AB)]),
    plans.plan_by: (("change", "spares", "order"), [(EXCHANGE, X, AB), (FULL_UP, X, AB)]),
    plans.can_do: (("change", "spares"), [(EXCHANGE, X), (FULL_UP, X)]),
    plans.plan_for: (("change", "spares"), [(EXCHANGE, X), (FULL_UP, X)]),
    plans.shortest_plan: (("change", "spares"), [(EXCHANGE, X), (FULL_UP, X)]),
    plans.fewest_moves_of: (("change", "spares"), [(EXCHANGE, X), (FULL_UP, X)]),
    plans.is_shortest: (("change", "spares", "thing"), [(EXCHANGE, X, PLAN), (EXCHANGE, X, 1)]),
}

LYING = ("b", "a", "")
ARRANGING = {
    arranging.cells_of: (("change", "spares"), [(EXCHANGE, X), (EXCHANGE, ("aa", "x"))]),
    arranging.is_lying: (("change", "spares", "thing"), [(EXCHANGE, X, LYING), (EXCHANGE, X, 1)]),
    arranging.rounds_in: (("change", "spares", "lying"), [(EXCHANGE, X, LYING), (EXCHANGE, X, ("", "a", "b"))]),
    arranging.fewest_copies: (("change", "spares", "lying"), [(EXCHANGE, X, LYING), (EXCHANGE, X, ("", "a", "b"))]),
    arranging.copies_for: (("change", "spares", "lying"), [(EXCHANGE, X, LYING), (EXCHANGE, X, ("", "a", "b"))]),
    arranging.is_arranging: (
        ("change", "spares", "lying", "thing"),
        [(EXCHANGE, X, ("", "b", "a"), (("x", "a"),)), (EXCHANGE, X, LYING, ())],
    ),
    arranging.lying_after: (
        ("change", "spares", "lying", "copying"),
        [(EXCHANGE, X, LYING, (("a", "x"), ("b", "a"))), (EXCHANGE, X, LYING, (("a", "b"),))],
    ),
}

OLD = (("a", "pq"), ("b", "rs"), ("c", "tu"))
NEW = (("a", "xp"), ("b", "qr"), ("c", "st"))
OTHER = (("a", "xp"), ("b", "qr"))
MAKING = (("raw", "xp"), ("shift", "a", "b", 1), ("shift", "b", "c", 1))
NO_MAKING = (("raw", "xp"), ("copy", "a"), ("copy", "b"))
COPIES = (("a", "b"), (("copy", ("b",)), ("f", ("a", "b"))))

IMAGES = {
    images.is_image: (("thing",), [(OLD,), (1,)]),
    images.text_of: (("image", "block"), [(OLD, "a"), (OLD, "z")]),
    images.apart: (("image", "other"), [(OLD, NEW), (OLD, OTHER)]),
    images.moved_on: (("image", "other"), [(OLD, NEW), (OLD, OTHER)]),
    images.ways: (("image", "other", "block"), [(OLD, NEW, "b"), (OLD, OTHER, "b"), (OLD, OTHER, "z")]),
    images.is_way: (("image", "other", "block", "thing"), [(OLD, NEW, "b", MAKING[1]), (OLD, NEW, "z", 1), (OLD, NEW, "b", 1)]),
    images.text_by: (("image", "way"), [(OLD, MAKING[1]), (OLD, ("shift", "a", "a", 2)), (OLD, ("copy", "z"))]),
    images.is_making: (("image", "other", "thing"), [(OLD, NEW, MAKING), (OLD, NEW, 1), (OLD, OTHER, 1)]),
    images.image_by: (("image", "making"), [(OLD, MAKING), (OLD, MAKING[:2]), (OLD, (("copy", "z"),))]),
    images.letters: (("making",), [(MAKING,), ((),)]),
    images.least_making: (("image", "other"), [(OLD, NEW), (OLD, OTHER)]),
    images.change_by: (("image", "other", "making"), [(OLD, NEW, MAKING), (OLD, NEW, NO_MAKING), (OLD, OTHER, (("copy", "z"),))]),
    images.fits: (("image", "other", "making", "spares"), [(OLD, NEW, MAKING, 1), (OLD, NEW, NO_MAKING, 1)]),
    images.lean_making: (("image", "other", "spares"), [(OLD, NEW, 1), (OLD, OTHER, 1)]),
    images.letters_by_spares: (("image", "other"), [(OLD, NEW), (OLD, OTHER)]),
    images.behind: (("one", "other"), [(COPIES, EXCHANGE), (COPIES, CHANGE)]),
    images.reads_behind: (("one", "other"), [(COPIES, EXCHANGE), (COPIES, CHANGE)]),
    images.made_at_once: (("one", "other"), [(COPIES, (AB, (("g", ("a",)), ("copy", ("b",))))), (COPIES, EXCHANGE)]),
}

DEVICE = ((5, 0), 0, -1, 0, 0)
ERRAND = (("write", 1, 6), ("try", 1, 2), ("start",), ("sure",), ("floor",))
SOON = ERRAND[:3] + (("floor",), ("sure",))
STAND = (((5, 6), 0, 1, 2, 0), 2, 0)
FAULTS = (6,)

SLOTS = {
    slots.is_device: (("thing",), [(DEVICE,), (1,)]),
    slots.is_errand: (("device", "thing"), [(DEVICE, ERRAND), (DEVICE, 1)]),
    slots.can_start: (("device", "slot"), [(DEVICE, 0), (DEVICE, 2)]),
    slots.device_started: (("device",), [(DEVICE,), (STAND[0],)]),
    slots.first_stand: (("errand", "device"), [(ERRAND, DEVICE), ((), STAND[0])]),
    slots.stand_behind: (
        ("errand", "faults", "stand", "event"),
        [(ERRAND, (), STAND, "go"), (ERRAND, FAULTS, STAND, "cut"), (ERRAND, (5,), STAND, "go")],
    ),
    slots.stands_along: (
        ("errand", "device", "faults", "events"),
        [(ERRAND, DEVICE, (), ("go", "tear")), (ERRAND, DEVICE, (), ("go", "cut")), (ERRAND, DEVICE, FAULTS, ("tear", "go"))],
    ),
    slots.all_stands: (("errand", "device"), [(ERRAND, DEVICE), (SOON, DEVICE)]),
    slots.fate: (("errand", "faults", "stand"), [(ERRAND, (), STAND), (ERRAND, FAULTS, STAND)]),
    slots.fates: (("errand", "device", "faults"), [(ERRAND, DEVICE, FAULTS), (SOON, DEVICE, ())]),
    slots.ends_with: (("errand", "device", "faults"), [(ERRAND, DEVICE, FAULTS), (SOON, DEVICE, ())]),
    slots.is_safe: (("errand", "device"), [(ERRAND, DEVICE), (SOON, DEVICE)]),
    slots.bad_acts: (("errand", "device"), [(ERRAND, DEVICE), (SOON, DEVICE)]),
    slots.lost_events: (("errand", "device"), [(ERRAND, DEVICE), (SOON, DEVICE)]),
    slots.stuck_run: (("errand", "device"), [(ERRAND, DEVICE), ((("write", 0, 3),), ((1, 2), 0, 1, 1, 0))]),
    slots.is_stuck_run: (("errand", "device", "thing"), [(ERRAND, DEVICE, (FAULTS, ("go",))), (ERRAND, DEVICE, 1)]),
    slots.keep: (("errand", "device"), [(ERRAND, DEVICE), (SOON, DEVICE)]),
    slots.is_keep: (("errand", "device", "thing"), [((), DEVICE, ((DEVICE, 0, 0),)), (ERRAND, DEVICE, 1)]),
    slots.fewest_cuts: (("errand", "device", "word"), [(ERRAND, DEVICE, "back"), (ERRAND, DEVICE, "x")]),
    slots.left_versions: (("errand", "device"), [(ERRAND, DEVICE), (SOON, DEVICE)]),
    slots.errand_for: (("device", "version"), [(DEVICE, 5), (DEVICE, 6), (STAND[0][:2] + (-1, 0, 9), 6)]),
    slots.is_errand_for: (("device", "version", "thing"), [(DEVICE, 6, ERRAND[:4]), (DEVICE, 6, 1)]),
}

SAMPLES = {
    **ROWS_AND_TEXTS, **TERMS, **LOSSES, **MARKS, **ORDERS, **PLANS, **ARRANGING, **IMAGES, **SLOTS,
    **SAMPLES_OF_FLEETS, **SAMPLES_OF_BOARD,
}
# For each module how many functions the interface lists.
LISTED = {
    rows: 26, texts: 7, terms: 30, losses: 22, marks: 22, orders: 28, plans: 16, arranging: 7, images: 18, slots: 22,
    **LISTED_OF_FLEETS, **LISTED_OF_BOARD,
}
# Of these several results are a list.
LISTS = (
    losses.contents_along, marks.all_markings, orders.right_orders, arranging.rounds_in, images.ways, slots.stands_along,
    slots.all_stands, desk.replies,
)
