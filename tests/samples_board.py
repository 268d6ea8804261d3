"""For each function of edits, claims and desk its parameters and samples of arguments."""

from atanywrite import claims, desk, edits
from tests.common import CHANGE, ROW, STILL
from tests.samples_fleets import RASH

MIX = (("a", "b"), ("a", "b"), (("mix", ("a", "b"), "a"), ("fix", ("a",), "b")), ())
INSERT = ("insert", 1, ("h", ("a", "b"), "b"))
DEED_TEXT = "put r cells a b; wanted b;\n f a to b; g b to b\nkeep r keeps\nedit r mark 1\nlose r 0\nwords r\ndrop x"

EDITS = {
    edits.edited: (("row", "edit"), [(ROW, INSERT), (ROW, ("swap", 2)), (ROW, ("want", "a")), (ROW, ("cell", "a"))]),
    edits.undone_by: (("row", "edit"), [(ROW, INSERT), (ROW, ("remove", 0)), (ROW, ("want", "a")), (ROW, ("drop", "x"))]),
    edits.edits_commute: (("row", "edit", "later"), [(ROW, INSERT, ("mark", 2)), (ROW, ("want", "x"), ("mark", 2))]),
    edits.can_edit: (("row", "thing"), [(ROW, INSERT), (ROW, 1)]),
    edits.is_idle: (("row", "edit"), [(ROW, ("mark", 2)), (ROW, ("want", "s")), (ROW, ("clear", 2))]),
    edits.mending_swaps: (("row",), [(ROW,), (STILL,), (MIX,)]),
    edits.guarded: (
        ("row", "number", "cell", "new"),
        [(MIX, 0, "a", "c"), (MIX, 1, "a", "c"), (MIX, 2, "x", "a"), (MIX, 0, "x", "a"), (MIX, 0, "a", "a")],
    ),
}

KEPT = ("keeps", ROW)
FALLEN = ("keeps", MIX)
CLAIMS = [
    KEPT, FALLEN, ("cell", MIX, "a"), ("cell", ROW, "s"), ("dead", ROW, 0), ("dead", (("a",), ("a",), (("f", (), "a"),) * 2, ()), 0),
    ("marked", ROW, 0), ("marked", MIX, 9), ("marked", STILL, 0), ("made", CHANGE, 1), ("made", (("a", "b"), (("f", ("a", "b")),) * 2), 1),
    ("made", (("a", "b"), (("f", ("a", "b")), ("g", ("a", "b")))), 1), ("mild", RASH, 10, 3), ("mild", RASH, 4, 3), ("mild", (), 1, 0),
]

CLAIM_SAMPLES = {
    claims.is_claim: (("thing",), [(KEPT,), (1,)]),
    claims.stands: (("claim",), [*[(claim,) for claim in CLAIMS], (1,)]),
    claims.reason_for: (("claim",), [*[(claim,) for claim in CLAIMS], (1,)]),
    claims.reason_against: (("claim",), [*[(claim,) for claim in CLAIMS], (1,)]),
    claims.is_reason_for: (("claim", "thing"), [(("marked", ROW, 1), (1,)), (("made", CHANGE, 1), ("c", "a", "b", "d")), (1, 1)]),
    claims.is_reason_against: (("claim", "thing"), [(FALLEN, (0,)), (("dead", ROW, 1), (1,)), (1, 1)]),
    claims.first_fallen: (("claims",), [((KEPT, FALLEN),), ((KEPT,),), ((),), ((FALLEN, 1),)]),
    claims.claim_of: (("row", "word"), [(ROW, ("keeps",)), (ROW, ("cell", "a")), (ROW, ("dead", 3)), (ROW, 1)]),
    claims.word_text: (("word",), [(("keeps",),), (("cell", "a"),), (("dead", 10),)]),
    claims.word_from: (("text",), [("keeps",), ("cell a",), ("marked 10",), ("dead",)]),
}

TERM = ("f", (("old", "a"), ("g", ()), ("spoilt", 2)))
DESK = {
    desk.edit_from: (("text",), [("name a b",), ("insert 0 f a to b",), ("insert 0 f a b",)]),
    desk.edit_text: (("edit",), [(INSERT,), (("name", "a", "b"),), (("swap", 3),)]),
    desk.term_text: (("term",), [(TERM,), (("old", "a"),), (("spoilt", 0),)]),
    desk.term_from: (("text",), [("f(a, g(), 2)",), ("a",), ("f(a,b)",)]),
    desk.is_request: (("thing",), [("names",), (DEED_TEXT,), (1,)]),
    desk.replies: (("text",), [(DEED_TEXT,), ("",), ("names x",)]),
}

SAMPLES_OF_BOARD = {**EDITS, **CLAIM_SAMPLES, **DESK}
LISTED_OF_BOARD = {edits: 7, claims: 10, desk: 6}
