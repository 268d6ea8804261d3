"""For each function of the interface its parameters and samples of arguments; those called thing keep their tuples."""

from atanywrite import losses, marks, orders, rows, terms, texts
from tests.common import CHANGE, FULL, ROW, SINGLE, STILL

MOVE = ("h", ("a", "b"), "b")
SMALL = (("a",), ("a",), (("f", (), "a"), ("g", ("a",), "a")), (1,))

TALE = (
    ("a", "b", "c"),
    ("a", "c"),
    (("f", ("a",), "b"), ("copy", ("b",), "c"), ("g", ("a", "c"), "a"), ("h", ("b",), "b")),
    (2,),
)
SWAP = (("a", "b", "t"), ("a", "b"), (("copy", ("a",), "t"), ("copy", ("b",), "a"), ("copy", ("t",), "b")), ())
SURE = SWAP[:3] + ((1, 2),)
TERM = ("f", (("old", "a"), ("g", (("spoilt", 1), ("old", "b")))))
RING = (("p", "q", "r"), (("f", ("p", "q")), ("f", ("q", "r")), ("f", ("r", "p"))))
ORDER = ("c", "b", "a", "d")

ROWS_AND_TEXTS = {
    rows.is_row: (("thing",), [(ROW,), (1,)]),
    rows.is_move: (("row", "thing"), [(ROW, MOVE), (ROW, 1)]),
    rows.is_change: (("thing",), [(CHANGE,), ("x",)]),
    rows.is_order: (("change", "thing"), [(CHANGE, ("b", "a", "d", "c")), (CHANGE, None)]),
    rows.spots: (("row",), [(ROW,), (STILL,)]),
    rows.stretches: (("row",), [(ROW,), (STILL,)]),
    rows.stretch_of: (("row", "number"), [(ROW, 2), (ROW, 3)]),
    rows.is_marked: (("row", "number"), [(ROW, 1), (ROW, 2)]),
    rows.readers: (("row", "cell"), [(ROW, "a"), (ROW, "x")]),
    rows.writers: (("row", "cell"), [(ROW, "a"), (ROW, "x")]),
    rows.read_cells: (("row",), [(ROW,), (STILL,)]),
    rows.written_cells: (("row",), [(ROW,), (STILL,)]),
    rows.functions: (("row",), [(ROW,), (STILL,)]),
    rows.with_move: (("row", "number", "move"), [(ROW, 1, MOVE), (STILL, 0, MOVE), (ROW, 9, MOVE)]),
    rows.without_move: (("row", "number"), [(ROW, 1), (SINGLE, 0), (ROW, 3)]),
    rows.swapped: (("row", "number"), [(ROW, 1), (ROW, 2)]),
    rows.with_mark: (("row", "number"), [(ROW, 2), (ROW, 1)]),
    rows.without_mark: (("row", "number"), [(ROW, 1), (ROW, 2)]),
    rows.all_marked: (("row",), [(ROW,), (STILL,)]),
    rows.unmarked: (("row",), [(ROW,), (STILL,)]),
    rows.with_cell: (("row", "cell"), [(ROW, "c"), (ROW, "a")]),
    rows.without_cell: (("row", "cell"), [(STILL, "a"), (ROW, "a"), (ROW, "x")]),
    rows.with_wanted: (("row", "cells"), [(ROW, ("s",)), (ROW, ()), (ROW, ("a", "x"))]),
    rows.renamed: (("row", "cell", "new"), [(ROW, "a", "z"), (ROW, "x", "y"), (ROW, "a", "a"), (ROW, "a", "A")]),
    rows.joined: (("row", "other"), [(ROW, SMALL), (SMALL, ROW), (STILL, SMALL)]),
    rows.cut: (("row", "number"), [(ROW, 1), (ROW, 4)]),
    texts.names_text: (("names",), [(("a", "b"),), ((),)]),
    texts.numbers_text: (("numbers",), [((1, 0),), ((),)]),
    texts.moves_text: (("moves",), [(ROW[2],), ((),)]),
    texts.row_text: (("row",), [(ROW,), (FULL,), (STILL,)]),
    texts.names_from: (("text",), [("a b",), ("-",), ("",)]),
    texts.numbers_from: (("text",), [("1 0",), ("-",), ("",)]),
    texts.row_from: (("text",), [("cells a; wanted a; f to a",), ("cells a",), ("cells a; wanted b",)]),
}

TERMS = {
    terms.contents_at: (("row", "spot"), [(TALE, 4), (STILL, 0), (TALE, 5)]),
    terms.content: (("row", "cell", "spot"), [(TALE, "c", 2), (TALE, "x", 2), (TALE, "c", -1)]),
    terms.end_terms: (("row",), [(TALE,), (STILL,)]),
    terms.written_by: (("row", "cell", "spot"), [(TALE, "c", 2), (TALE, "c", 1), (TALE, "x", 1)]),
    terms.next_write: (("row", "cell", "spot"), [(TALE, "c", 0), (TALE, "c", 2), (TALE, "a", 5)]),
    terms.sources: (("row", "number"), [(TALE, 2), (TALE, 4)]),
    terms.writes_for: (("row", "number"), [(TALE, 0), (TALE, 4)]),
    terms.counting: (("row",), [(TALE,), (STILL,)]),
    terms.move_counts: (("row", "number"), [(TALE, 0), (TALE, 3), (TALE, 4)]),
    terms.dead_moves: (("row",), [(TALE,), (STILL,)]),
    terms.why: (("row", "number"), [(TALE, 0), (TALE, 3), (TALE, 4)]),
    terms.is_why: (("row", "number", "thing"), [(TALE, 0, (0, 1)), (TALE, 0, None), (TALE, 4, ())]),
    terms.last_use: (("row", "number"), [(TALE, 0), (TALE, 3), (TALE, 4)]),
    terms.old_needed: (("row",), [(TALE,), (STILL,)]),
    terms.old_lost: (("row", "spot"), [(TALE, 4), (TALE, 5)]),
    terms.alike_cells: (("row", "cell", "spot"), [(TALE, "c", 2), (TALE, "x", 2), (TALE, "c", 5)]),
    terms.names_needed: (("row",), [(TALE,), (STILL,)]),
    terms.lean: (("row",), [(TALE,), (STILL,)]),
    terms.ends_alike: (("row", "other"), [(TALE, TALE), (TALE, ROW)]),
    terms.free_swaps: (("row",), [(TALE,), (STILL,)]),
    terms.swap_free: (("row", "number"), [(TALE, 2), (TALE, 0), (TALE, 4)]),
    terms.is_led_to: (("row", "other"), [(TALE, TALE), (TALE, ROW)]),
    terms.is_term: (("thing",), [(TERM,), (1,)]),
    terms.term_cells: (("one",), [(TERM,)]),
    terms.term_names: (("one",), [(TERM,)]),
    terms.term_losses: (("one",), [(TERM,)]),
    terms.term_size: (("one",), [(TERM,)]),
    terms.term_depth: (("one",), [(TERM,)]),
    terms.part_of: (("one", "path"), [(TERM, (1, 0)), (TERM, ()), (TERM, (2,))]),
    terms.first_unlike: (("one", "two"), [(TERM, TERM), (TERM, TERM[1][1]), (TERM, ("f", (TERM, TERM[1][1])))]),
}

LOSSES = {
    losses.goes_on_from: (("row", "number"), [(SURE, 2), (SURE, 3)]),
    losses.is_play: (("row", "thing"), [(SURE, (1, 1, 2)), (SURE, "a")]),
    losses.begun: (("row", "play"), [(SWAP, (2, 1)), (STILL, ())]),
    losses.play_from: (("row", "numbers"), [(SWAP, (0, 1, 0, 1, 2)), (SWAP, (0, 2))]),
    losses.most_begun: (("row", "number"), [(SWAP, 2), (STILL, 2)]),
    losses.contents_along: (("row", "play"), [(SWAP, (2, 1)), (STILL, ())]),
    losses.end_of: (("row", "play"), [(SWAP, (2, 1)), (STILL, ())]),
    losses.ends_by: (("row", "number"), [(SWAP, 2), (STILL, 0)]),
    losses.hazards: (("row",), [(SWAP,), (SURE,)]),
    losses.is_hazard: (("row", "thing"), [(SWAP, (0, "a", 1)), (SURE, 0)]),
    losses.keeps: (("row",), [(SWAP,), (SURE,)]),
    losses.losses_against: (("row",), [(SWAP,), (SURE,)]),
    losses.read_first: (("row", "number"), [(SWAP, 0), (SWAP, 1)]),
    losses.written_in: (("row", "number"), [(SWAP, 0), (SWAP, 1)]),
    losses.who_reads_first: (("row", "number", "cell"), [(SWAP, 0, "a"), (SWAP, 1, "x"), (SWAP, 1, "a")]),
    losses.keep_paper: (("row",), [(SWAP,), (SURE,)]),
    losses.is_keep_paper: (("row", "thing"), [(STILL, ()), (SURE, 1)]),
    losses.harm_paper: (("row",), [(SWAP,), (SURE,)]),
    losses.is_harm_paper: (("row", "thing"), [(SWAP, ((0, "a", 1), "b")), (SURE, 1)]),
    losses.can_differ: (("row", "spot"), [(SWAP, 3), (SWAP, 2)]),
    losses.loss_for: (("row", "cell"), [(SWAP, "a"), (SURE, "a"), (SWAP, "x")]),
    losses.fewest_losses: (("row", "some"), [(SWAP, ("a", "b")), (SURE, ("a",)), (SURE, ("a", "x"))]),
}

MARKS = {
    marks.wants: (("row",), [(SWAP,), (STILL,)]),
    marks.are_met: (("row", "marks"), [(SWAP, (1, 2)), (SWAP, (1,)), (SWAP, (3,))]),
    marks.unmet: (("row", "marks"), [(SWAP, (1, 2)), (SWAP, (1,)), (SWAP, (3,))]),
    marks.far_ends: (("row",), [(SWAP,), (STILL,)]),
    marks.span_holds: (("row", "first", "end"), [(SWAP, 0, 1), (SWAP, 1, 1), (SWAP, 4, -1)]),
    marks.is_marking: (("row", "thing"), [(SWAP, (1, 2)), (SWAP, 1)]),
    marks.all_markings: (("row",), [(TALE,), (STILL,)]),
    marks.how_many_markings: (("row",), [(TALE,), (STILL,)]),
    marks.fewest_marking: (("row",), [(SWAP,), (STILL,)]),
    marks.fewest_marks: (("row",), [(SWAP,), (STILL,)]),
    marks.from_end: (("row",), [(SWAP,), (STILL,)]),
    marks.heights: (("row",), [(SWAP,), (STILL,)]),
    marks.is_heights: (("row", "thing"), [(SWAP, (0, 1, 2, 3)), (SWAP, 1)]),
    marks.bar: (("row",), [(SWAP,), (TALE,)]),
    marks.is_bar: (("row", "thing"), [(SWAP, (0, 1)), (TALE, 1)]),
    marks.in_all: (("row",), [(SWAP,), (TALE,)]),
    marks.in_none: (("row",), [(SWAP,), (TALE,)]),
    marks.cheapest_marking: (("row", "prices"), [(SWAP, (2, 1)), (TALE, (1, 2, 3)), (SWAP, (1,))]),
    marks.idle_marks: (("row",), [(SWAP,), (SURE,)]),
    marks.helping_marks: (("row",), [(SWAP,), (SWAP[:3] + ((2,),),)]),
    marks.spoiling_marks: (("row",), [(SWAP,), (SURE,)]),
    marks.least_more: (("row",), [(SWAP,), (TALE,)]),
}

ORDERS = {
    orders.reads_of: (("change", "block"), [(CHANGE, "c"), (CHANGE, "x")]),
    orders.readers_of: (("change", "block"), [(CHANGE, "b"), (CHANGE, "x")]),
    orders.term_of: (("change", "block"), [(CHANGE, "c"), (CHANGE, "x")]),
    orders.needed_behind: (("change", "some"), [(CHANGE, ("c",)), (CHANGE, ("x",))]),
    orders.let_go: (("change", "some", "block"), [(CHANGE, ("c",), "a"), (CHANGE, ("c",), "c"), (CHANGE, ("x",), "y")]),
    orders.held_at: (("change", "some", "block"), [(CHANGE, ("c",), "a"), (CHANGE, ("c",), "c"), (CHANGE, ("x",), "y")]),
    orders.let_next: (("change", "some", "spares"), [(CHANGE, ("c",), 1), (CHANGE, ("c",), 0), (CHANGE, ("x",), 0)]),
    orders.can_go_on: (("change", "some", "spares"), [(CHANGE, ("c",), 1), (CHANGE, ("c",), 0), (CHANGE, ("x",), 0)]),
    orders.needs_along: (("change", "order"), [(CHANGE, ORDER), (CHANGE, ("a",)), (CHANGE, ("a", "x"))]),
    orders.spares_for: (("change", "order"), [(CHANGE, ORDER), (CHANGE, ("a",)), (CHANGE, ("a", "x"))]),
    orders.is_right: (("change", "order", "spares"), [(CHANGE, ORDER, 1), (CHANGE, ORDER, 0), (CHANGE, ("x",), 0)]),
    orders.tight_places: (("change", "order"), [(CHANGE, ORDER), (CHANGE, ("a",)), (CHANGE, ("a", "x"))]),
    orders.least_spares: (("change",), [(CHANGE,), (RING,)]),
    orders.best_order: (("change",), [(CHANGE,), (RING,)]),
    orders.right_orders: (("change", "spares"), [(CHANGE, 1), (RING, 1), (RING, 0)]),
    orders.how_many_right: (("change", "spares"), [(CHANGE, 1), (RING, 1), (RING, 0)]),
    orders.nth_right: (("change", "spares", "number"), [(CHANGE, 1, 3), (RING, 1, 0), (RING, 0, 0)]),
    orders.made_sets: (("change", "spares"), [(CHANGE, 1), (RING, 1), (RING, 0)]),
    orders.stuck_sets: (("change", "spares"), [(CHANGE, 1), (RING, 1), (RING, 0)]),
    orders.fence: (("change", "spares"), [(CHANGE, 1), (RING, 1), (RING, 0)]),
    orders.is_fence: (("change", "spares", "thing"), [(RING, 1, ((), ("p",), ("q",), ("r",))), (RING, 1, 1), (RING, 0, 1)]),
    orders.turned: (("change", "order", "number"), [(CHANGE, ORDER, 1), (CHANGE, ORDER, 3), (CHANGE, ("a",), 0)]),
    orders.saving_turns: (("change", "order"), [(CHANGE, ("a", "b", "c", "d")), (CHANGE, ("a",))]),
    orders.goes_behind: (("change",), [(CHANGE,), (RING,)]),
    orders.keeps_behind: (("change", "order"), [(CHANGE, ORDER), (CHANGE, ("a",)), (CHANGE, ("a", "x"))]),
    orders.order_behind: (("change",), [(CHANGE,), (RING,)]),
    orders.beside: (("one", "other"), [(CHANGE, RING), (CHANGE, CHANGE)]),
    orders.with_recipe: (
        ("change", "block", "recipe"),
        [(CHANGE, "a", ("f", ("a", "b"))), (CHANGE, "a", ("F", ())), (CHANGE, "x", ("f", ()))],
    ),
}

SAMPLES = {**ROWS_AND_TEXTS, **TERMS, **LOSSES, **MARKS, **ORDERS}
# For each module how many functions the interface lists.
LISTED = {rows: 26, texts: 7, terms: 30, losses: 22, marks: 22, orders: 28}
# Of these several results are a list.
LISTS = (losses.contents_along, marks.all_markings, orders.right_orders)
