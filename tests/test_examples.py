"""The example sessions of the document, each line with its answer."""

import unittest

from atanywrite import arranging, board, claims, desk, edits, errors, fleets, images, losses, marks, orders, paces
from atanywrite import plans, rollouts, rows, slots, terms, texts, watch
from atanywrite.errors import RowError

TERMS = '''
>>> moves = (("f", ("a",), "b"), ("copy", ("b",), "c"), ("g", ("a", "c"), "a"), ("h", ("b",), "b"))
>>> row = (("a", "b", "c"), ("a", "c"), moves, (2,))
>>> end_terms(row), content(row, "c", 2)
((('g', (('old', 'a'), ('f', (('old', 'a'),)))), ('f', (('old', 'a'),))), ('f', (('old', 'a'),)))
>>> sources(row, 2), writes_for(row, 0), counting(row), dead_moves(row), last_use(row, 0), last_use(row, 1), last_use(row, 3)
((None, 1), (1, 3), (0, 1, 2), (3,), 1, 4, None)
>>> is_why(row, 0, (0, 1)), is_why(row, 0, (0, 1, 2)), is_why(row, 0, (0, 3)), old_needed(row), old_lost(row, 4), alike_cells(row, "c", 2)
(True, True, False, ('a',), ('a', 'b', 'c'), ('b', 'c'))
>>> lean(row) == (row[0], row[1], moves[:3], (2,)), free_swaps(row), written_by(row, "c", 1), next_write(row, "b", 1)
(True, (2,), None, 3)
>>> term_size(end_terms(row)[0]), term_depth(end_terms(row)[0]), first_unlike(("f", (("old", "a"),)), ("f", (("old", "b"),))), part_of(end_terms(row)[0], (1, 0))
(4, 3, (0,), ('old', 'a'))
>>> swap_free(row, 0)
raises Unfit()
'''
ROWS_AND_TEXTS = '''
>>> row = (("a", "b", "s"), ("a", "b"), (("copy", ("a",), "s"), ("f", ("a", "b"), "a"), ("g", ("s",), "b")), (1,))
>>> spots(row), stretches(row), stretch_of(row, 2), readers(row, "a"), writers(row, "b"), functions(row), read_cells(row)
((0, 1, 3), ((0, 1), (1, 3)), (1, 3), (0, 1), (2,), ('copy', 'f', 'g'), ('a', 'b', 's'))
>>> row_text(row), row_from(row_text(row)) == row, moves_text(row[2][:1])
('cells a b s; wanted a b; copy a to s; mark; f a b to a; g s to b', True, 'copy a to s')
>>> with_mark(row, 2)[3], without_mark(row, 1)[3], with_move(row, 1, ("h", (), "s"))[3], without_move(row, 0)[3], cut(row, 2)[1][2:]
((1, 2), (), (1,), (), ((('g', ('s',), 'b'),), ()))
>>> row_from("cells a; wanted a; mark; f to a")
raises BadText(piece=2)
>>> without_cell(row, "s")
raises Unfit()
'''
LOSSES = '''
>>> cells, moves = ("a", "b", "t"), (("copy", ("a",), "t"), ("copy", ("b",), "a"), ("copy", ("t",), "b"))
>>> swap, sure = (cells, ("a", "b"), moves, ()), (cells, ("a", "b"), moves, (1, 2))
>>> keeps(swap), hazards(swap), losses_against(swap), keeps(sure), hazards((cells, ("a", "b"), moves, (1,)))
(False, ((0, 'a', 1), (1, 'b', 2)), (1, 2), True, ((1, 'b', 2),))
>>> end_of(swap, ()), end_of(swap, (1,)), end_of(swap, (2,)), end_of(sure, (1, 1)) == end_of(sure, ())
((('old', 'b'), ('old', 'a')), (('old', 'b'), ('spoilt', 0)), (('spoilt', 0), ('old', 'b')), True)
>>> begun(swap, (2, 1)), begun(sure, (2, 2)), play_from(swap, (0, 1, 0, 1, 2)), most_begun(swap, 2), most_begun(sure, 2)
((0, 1, 2, 0, 1, 0, 1, 2), (0, 1, 2, 2, 2), (1,), 9, 5)
>>> keep_paper(sure)[1], is_harm_paper(swap, ((0, "a", 1), "b")), is_harm_paper(swap, ((0, "a", 1), "a")), can_differ(swap, 3), loss_for(swap, "a")
(((1, 2), ('b',), ('a',)), True, False, ('a', 'b', 't'), 2)
>>> plus = (("n",), ("n",), (("add", ("n",), "n"),), ())
>>> hazards(plus), end_of(plus, (0,)), contents_along(plus, (0,))[1], fewest_losses(swap, ("a", "b"))
(((0, 'n', 0),), (('add', (('spoilt', 0),)),), (('spoilt', 0),), 1)
>>> idle = (("a", "b", "t"), ("a",), (("f", ("a",), "t"), ("g", ("b",), "a")), ())
>>> keeps(idle), read_first(idle, 0), written_in(idle, 0), can_differ(idle, 2)
(True, ('b',), ('a', 't'), ('t',))
>>> read_first(idle, 1)
raises NoNumber(number=1)
'''
MARKS = '''
>>> moves = (("f", ("a",), "x"), ("g", ("z",), "b"), ("h", ("y",), "a"), ("i", ("b",), "c"), ("j", ("z",), "b"))
>>> row = (("a", "b", "c", "x", "y", "z"), ("a", "b", "c", "x"), moves, ())
>>> wants(row), far_ends(row), span_holds(row, 1, 5), span_holds(row, 2, 5)
(((0, 0, 1, 2), (2, 3, 4, 4)), (2, 5, 4, 4, 5), True, False)
>>> fewest_marking(row), from_end(row), how_many_markings(row), in_all(row), unmet(row, (2,)), cheapest_marking(row, (5, 1, 1, 1))
((1,), (1,), 7, (), ((2, 3, 4, 4),), (2, (2, 4)))
>>> is_heights(row, (0, 1, 1, 2, 2, 2)), is_heights(row, (0, 1, 1, 2, 2, 3)), helping_marks(row), least_more(row[:3] + ((3,),))
(True, False, (1,), (1, 3, 4))
>>> idle_marks(row[:3] + ((1, 4),)), spoiling_marks(row[:3] + ((1,),))
((4,), (2, 3))
>>> own = (("b",), ("b",), (("f", ("b",), "b"),), ())
>>> wants(own), fewest_marks(own), is_bar(own, (0,))
(((0, 0, 1, 0),), None, True)
'''
ORDERS = '''
>>> change = (("a", "b", "c", "d"), (("f", ("b",)), ("g", ("a",)), ("h", ("a", "b", "c")), ("copy", ("d",))))
>>> needs_along(change, ("a", "b", "c", "d")), spares_for(change, ("a", "b", "c", "d")), needs_along(change, ("c", "d", "a", "b")), tight_places(change, ("a", "b", "c", "d"))
((5, 6, 7, 4), 3, (5, 4, 5, 5), (2,))
>>> least_spares(change), best_order(change), how_many_right(change, 1), goes_behind(change), let_go(change, ("c",), "a"), saving_turns(change, ("a", "b", "c", "d"))
(1, ('c', 'a', 'b', 'd'), 8, (('a', 'c'), ('b', 'c')), ('b',), (1,))
>>> ring = (("p", "q", "r"), (("f", ("p", "q")), ("f", ("q", "r")), ("f", ("r", "p"))))
>>> least_spares(ring), fence(ring, 1), is_fence(ring, 1, ((), ("p",))), fence(ring, 2), stuck_sets(ring, 1)
(2, ((), ('p',), ('q',), ('r',)), False, None, (('p',), ('q',), ('r',)))
>>> twin = (("a", "b"), (("f", ("a", "b")), ("f", ("a", "b"))))
>>> needs_along(twin, ("b", "a")), least_spares(with_recipe(twin, "b", ("g", ("a", "b")))), held_at(twin, ("a",), "b") == (("f", (("old", "a"), ("old", "b"))), ("old", "a"), ("old", "b"))
((3, 3), 2, True)
>>> spares_for(change, ("a", "b", "c", "c"))
raises Unfit()
'''
PLANS = '''
>>> swap = (("a", "b"), (("f", ("a", "b")), ("g", ("b",))))
>>> goal_of(swap), minds(swap, "a"), least_saved(swap), fewest_moves_of(swap, ("x",)), can_do(swap, ("x",))
((('f', (('old', 'a'), ('old', 'b'))), ('g', (('old', 'b'),))), ('a', 'b'), ('a', 'b'), 4, True)
>>> plan = (("a", "b", "x"), ("a", "b"), (("f", ("a", "b"), "x"), ("g", ("b",), "a"), ("copy", ("a",), "b"), ("copy", ("x",), "a")), (1, 2, 3))
>>> is_plan(swap, ("x",), plan), goes_by(swap, ("x",), plan, ("a", "b")), order_of_plan(swap, ("x",), plan), plan_faults(swap, ("x",), plan[:3] + ((),))
(True, True, ('a', 'b'), ('keeps',))
>>> three = (("a", "b", "c"), (("f", ("b",)), ("g", ("c",)), ("copy", ("c",))))
>>> stays(three), made_blocks(three), least_saved(three), fewest_moves_of(three, ("x",)), fewest_copies(three, ("x",), ("b", "a", "c", ""))
(('c',), ('a', 'b'), (), 2, 3)
>>> rounds_in(three, ("x",), ("b", "a", "c", "")), is_arranging(three, ("x",), ("b", "a", "c", ""), (("a", "x"), ("b", "a"), ("x", "b"))), copies_for(three, ("x",), ("", "a", "c", "b"))
([('a', 'b')], True, (('b', 'a'), ('x', 'b')))
>>> plan_by((("a", "b"), (("f", ("a", "b")), ("g", ("a", "b")))), ("x",), ("a", "b"))
raises CanNot()
'''
IMAGES = '''
>>> old = (("a", "pq"), ("b", "rs"), ("c", "tu"))
>>> new, ring = (("a", "xp"), ("b", "qr"), ("c", "st")), (("a", "st"), ("b", "up"), ("c", "qr"))
>>> moved_on(old, new), ways(old, new, "b"), least_making(old, new)
(1, [('raw', 'qr'), ('shift', 'a', 'b', 1)], (('raw', 'xp'), ('shift', 'a', 'b', 1), ('shift', 'b', 'c', 1)))
>>> change_by(old, new, least_making(old, new)), fits(old, new, least_making(old, new), 1)
((('a', 'b', 'c'), (('rawa', ()), ('shifta', ('a', 'b')), ('shifta', ('b', 'c')))), True)
>>> letters_by_spares(old, ring), lean_making(old, ring, 1)
((2, 0, 0), (('raw', 'st'), ('shift', 'c', 'a', 1), ('shift', 'a', 'b', 1)))
>>> one = (("a", "b"), (("copy", ("b",)), ("f", ("a", "b"))))
>>> behind(one, (("a", "b"), (("g", ("a",)), ("g", ("b",))))), made_at_once(one, (("a", "b"), (("g", ("a",)), ("copy", ("a",)))))
((('g', (('old', 'b'),)), ('g', (('f', (('old', 'a'), ('old', 'b'))),))), (('a', 'b'), (('g', ('b',)), ('copy', ('b',)))))
>>> text_of(old, "z")
raises NoBlock(name='z')
'''
SLOTS = '''
>>> old = ((5, 0), 0, -1, 0, 0)
>>> errand = (("write", 1, 6), ("try", 1, 2), ("start",), ("sure",), ("floor",))
>>> stands_along(errand, old, (), ("go",) * 5)[3:]
[(((5, 6), 0, 1, 1, 0), 3, 1), (((5, 6), 1, -1, 0, 0), 4, 1), (((5, 6), 1, -1, 0, 6), 5, 1)]
>>> is_safe(errand, old), fates(errand, old, ()), fates(errand, old, (6,)), ends_with(errand, old, ()), fewest_cuts(errand, old, "back")
(True, ('back', 'done'), ('back',), (('back', 5), ('done', 6)), 2)
>>> soon = errand[:3] + (("floor",), ("sure",))
>>> bad_acts(soon, old), lost_events(soon, old), left_versions(errand, old), left_versions(errand[:4], old)
((3,), ('go', 'go', 'cut', 'go', 'go', 'cut'), (6,), (5, 6))
>>> is_errand_for(old, 6, errand[:4]), is_errand_for(old, 6, errand), errand_for(old, 5)
(True, False, ())
'''
ROLLOUTS = '''
>>> classes = (("a", 1), ("b", 1), ("c", 5), ("d", 5))
>>> quick = ((0, "c", 1), (0, "d", 1), (10, "a", 1), (10, "b", 1), (10, "c", 4), (10, "d", 4))
>>> is_whole(classes, quick), begin_counts(quick, 10), worst_harm(quick, 10), soonest_end(classes, 10, 2), is_quickest(classes, 10, 2, quick), least_most(classes, 10, 10)
(True, ((0, 2), (10, 2)), 2, 10, True, 2)
>>> stop_of(quick, 10, ("c",)), done_by(quick, 10, ("c",)), harm(quick, 10, ("a", "c")), harmed_of(quick, 10, ("a", "b")), well_at(quick, 10, 10)
(10, ((0, 'c', 1), (0, 'd', 1)), 1, (('a', 1), ('b', 1)), ('c', 'd'))
>>> rash = ((0, "c", 3), (4, "a", 1))
>>> begin_counts(rash, 10), worst_bad(rash, 10), is_over(rash, 10, 3, (0, ("a", "c"))), tamed(rash, 10, 3), may_start(classes, rash, 4, 3, 4, "c")
(((0, 4), (4, 1)), ('a', 'c'), True, ((0, 'c', 3),), 2)
>>> starts_as_one(rash, "c", "a"), soonest_end(classes, 10, 1), soonest_end(classes, 10, 0), begin_of(rash, "a")
(((0, 'c', 3), (4, 'c', 1)), 30, None, 4)
>>> begin_of(rash, "b")
raises NoClass(name='b')
'''
FLEETS = '''
>>> fleet = (("ann", "old", (0,)), ("bob", "old", (2, 5)), ("cy", "new", (3,)), ("dan", "new", (4, 6)))
>>> most_harmed(fleet, 3), fleet_counts(fleet, 3), greatest_delay(fleet, 2), greatest_delay(fleet, 4), surely_begun(fleet, 4), maybe_begun(fleet, 4)
(2, ((0, 2), (2, 0), (3, 2), (4, 0), (5, 0), (6, 0)), 3, None, ('ann', 'cy'), ('ann', 'bob', 'cy', 'dan'))
>>> harmed(fleet, (0, 2, 3, 4), (3, 3, 3, 3), ("new", "old")), harmed(fleet, (0, 2, 3, 4), (1, 9, 9, 9), ("old",)), is_case_above(fleet, 3, 1, ((0, 2, 3, 4), ("old",)))
(('ann', 'bob'), ('ann',), True)
>>> awake_from(fleet, "bob", 3)[1], devices_of(fleet, "new")
(('bob', 'old', (5,)), ('cy', 'dan'))
>>> paces = (("ann", ((1, 4), (6, 9))), ("bob", ((5, 5),)))
>>> may_have(paces, "ann", 3), surely_has(paces, "ann", 5), may_meet(paces, "ann", "bob"), meeting(paces, "ann", "bob", (1, 0)), widest(paces)
((0, 1), 1, ((0, 0), (1, 0), (1, 1), (2, 1)), 1, 1)
>>> awake_from(fleet, "cy", 4)
raises Unfit()
'''
EDITS = r'''
>>> row = (("a", "b"), ("a", "b"), (("mix", ("a", "b"), "a"), ("fix", ("a",), "b")), ())
>>> watch = Watch(row)
>>> watch.do(), watch.lose(), watch.here, watch.play(), watch.spoilt(), watch.begun(), watch.is_well()
(None, None, 0, (1,), ('b',), (1, 1), False)
>>> watch.contents()
(('mix', (('old', 'a'), ('old', 'b'))), ('spoilt', 0))
>>> words_for(row, (1,)), Watch(row).next_harm(), mending_swaps(row)
(('do', 'lose', 'do', 'do'), 0, ())
>>> one = guarded(row, 0, "a", "c")
>>> one[2], one[3], Watch(one).next_harm()
((('copy', ('a',), 'c'), ('mix', ('c', 'b'), 'a'), ('fix', ('a',), 'b')), (1,), 2)
>>> both = guarded(one, 1, "b", "d")
>>> both[3], Watch(both).next_harm(), undone_by(row, ("mark", 1)), is_idle(row, ("mark", 1))
((1, 2), None, ('clear', 1), True)
>>> edited(row, ("swap", 1))
raises NoNumber(number=1)
'''
BOARD = r'''
>>> moves = (("f", ("a",), "b"), ("g", ("b",), "b"))
>>> row, torn = (("a", "b"), ("b",), moves, ()), (("a", "b"), ("b",), moves, (1,))
>>> [stands(own) for own in (("keeps", row), ("keeps", torn), ("marked", torn, 0), ("dead", row, 0))]
[True, False, True, False]
>>> is_reason_for(("keeps", row), ((("a",), ("b",)),)), is_reason_against(("keeps", torn), (1,)), is_reason_against(("dead", row, 0), (0, 1))
(True, True, True)
>>> board = Board()
>>> board.put("r", torn), board.keep("r", ("keeps",)), board.lose("r", 1), board.spot("r"), board.end("r"), board.sure("r")
(None, None, None, 1, (('g', (('spoilt', 0),)),), ())
>>> word_text(("cell", "a")), board.contents("r")
('cell a', (('old', 'a'), ('spoilt', 0)))
'''
DESK = r'''
>>> replies("put r cells a b; wanted b;\n f a to b; g b to b\nholds r\nmarking r\nlose r 1\nspot r\ncontents r\nend r\nundo\nplay r\ndeeds")
['done', 'yes', '-', 'done', '0', 'a = a; b = 0', 'b = g(f(a))', 'done', '-', '1']
>>> replies("put r cells a; wanted a; f a to a\nkeep r keeps\nkeep r dead 0\nhazards r\nmarking r\nstanding r\nmended r replace 0 f to a\nspoilt r cell b\nlose r 0\nend r")
['done', 'done', 'done', '0 a 0', 'none', '-', 'keeps', '-', 'done', 'a = f(0)']
>>> replies("put x cells a; wanted b\nput x cells a; wanted a\nput x cells b; wanted b\nlose x 0\nedit x drop z\nedit x drop a\nspot y\nkeep x dead 0\nrow x\nhazards x")
['refused Unfit', 'done', 'refused Known', 'refused NoNumber', 'refused NoCell', 'refused Unfit', 'refused NoRow', 'refused Unfit', 'cells a; wanted a', '-']
>>> term_text(("f", (("old", "a"), ("g", ()), ("spoilt", 2)))), term_from("f(a, g(), 2)") == ("f", (("old", "a"), ("g", ()), ("spoilt", 2))), edit_text(("insert", 0, ("f", (), "a"))), edit_from("name a b")
('f(a, g(), 2)', True, 'insert 0 f to a', ('name', 'a', 'b'))
>>> [is_request(own) for own in ("edit x insert 0 f a to b", "edit x insert 0 f a b", "lose x 00", "put x cells a", "keep x dead", "row X")]
[True, False, False, False, False, False]
>>> term_from("f(a,b)")
raises BadText(piece=0)
>>> replies("names\nnames x")
raises BadLine(number=1)
'''
# For each session how many answers it has.
SESSIONS = [
    (TERMS, 6), (ROWS_AND_TEXTS, 5), (LOSSES, 7), (MARKS, 5), (ORDERS, 5), (PLANS, 5), (IMAGES, 5), (SLOTS, 4),
    (ROLLOUTS, 5), (FLEETS, 5), (EDITS, 6), (BOARD, 4), (DESK, 7),
]
MODULES = (
    errors, rows, texts, terms, losses, marks, orders, plans, arranging, images, slots, rollouts, fleets, paces, watch,
    edits, claims, board, desk,
)


def told(error):
    parts = ", ".join(f"{name}={worth!r}" for name, worth in vars(error).items())
    return f"raises {error.__class__.__name__}({parts})"


def play(session):
    """For each line of the session that has an answer: the line, this answer, and what came."""
    names = {name: worth for module in MODULES for name, worth in vars(module).items()
             if getattr(worth, "__module__", None) == module.__name__}
    lines = session.strip().split("\n")
    played = []
    for at, line in enumerate(lines):
        if not line.startswith(">>> "):
            continue
        answer = lines[at + 1] if at + 1 < len(lines) else ">>> "
        if answer.startswith(">>> "):
            exec(line[4:], names)
            continue
        try:
            came = repr(eval(line[4:], names))
        except RowError as error:
            came = told(error)
        played.append((line, answer, came))
    return played


class ExamplesTest(unittest.TestCase):
    def test_sessions(self):
        for session, many in SESSIONS:
            played = play(session)
            self.assertEqual(len(played), many)
            for line, answer, came in played:
                self.assertEqual(came, answer, line)


if __name__ == "__main__":
    unittest.main()
