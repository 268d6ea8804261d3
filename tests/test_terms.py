"""Point 4: contents, what counts, swaps, and TERMS."""

import itertools
import unittest

from atanywrite import rows, terms
from atanywrite.losses import keeps
from tests import brute
from tests.common import ROW, SINGLE, STILL, STRANGE, UNFIT, list_at_each_depth, nested, no_cell, no_number
from tests.common import refusal, with_strange_parts

MOVES = (("f", ("a",), "b"), ("copy", ("b",), "c"), ("g", ("a", "c"), "a"), ("h", ("b",), "b"))
TALE = (("a", "b", "c"), ("a", "c"), MOVES, (2,))
OLD = ("old", "a")


def many_rows():
    yield from brute.small_rows()
    yield from brute.long_rows(13)


def inner_terms(one):
    """All TERMS in this one with their PATHS."""
    yield (), one
    if one[0] not in ("old", "spoilt"):
        for place, part in enumerate(one[1]):
            for path, term in inner_terms(part):
                yield (place, *path), term


class ContentsTest(unittest.TestCase):
    def test_contents(self):
        for row in many_rows():
            along = brute.run(row, ())[1]
            for spot, held in enumerate(along):
                self.assertEqual(terms.contents_at(row, spot), brute.contents(row, held))
                for cell in row[0]:
                    self.assertEqual(terms.content(row, cell, spot), held[cell])
                    alike = tuple(other for other in row[0] if held[other] == held[cell])
                    self.assertEqual(terms.alike_cells(row, cell, spot), alike)
                lost = tuple(cell for cell in row[0] if ("old", cell) not in held.values())
                self.assertEqual(terms.old_lost(row, spot), lost)
            self.assertEqual(terms.end_terms(row), brute.end(row, ()))

    def test_errors(self):
        for spot in (-1, 5, 10 ** 9):
            self.assertEqual(refusal(terms.contents_at, TALE, spot), no_number(spot))
            self.assertEqual(refusal(terms.old_lost, TALE, spot), no_number(spot))
            for function in (terms.content, terms.alike_cells, terms.written_by, terms.next_write):
                self.assertEqual(refusal(function, TALE, "a", spot), no_number(spot))
                self.assertEqual(refusal(function, TALE, "x", spot), no_cell("x"))
        for name in ("x", "", "A", "copy", "a b"):
            for function in (terms.content, terms.alike_cells, terms.written_by, terms.next_write):
                self.assertEqual(refusal(function, TALE, name, 0), no_cell(name))

    def test_without_moves(self):
        self.assertEqual(terms.contents_at(STILL, 0), (("old", "a"), ("old", "b")))
        self.assertEqual(terms.end_terms(STILL), (("old", "b"),))
        self.assertEqual(refusal(terms.contents_at, STILL, 1), no_number(1))
        self.assertEqual(terms.old_needed(STILL), ("b",))
        self.assertEqual((terms.counting(STILL), terms.dead_moves(STILL), terms.names_needed(STILL)), ((), (), ()))
        self.assertEqual((terms.lean(STILL), terms.free_swaps(STILL)), (STILL, ()))
        self.assertTrue(terms.is_led_to(STILL, STILL))

    def test_writes(self):
        for row in many_rows():
            many = len(row[2])
            for cell in row[0]:
                for spot in range(many + 1):
                    ahead = brute.writes_between(row, cell, 0, spot)
                    behind = brute.writes_between(row, cell, spot, many)
                    self.assertEqual(terms.written_by(row, cell, spot), ahead[-1] if ahead else None)
                    self.assertEqual(terms.next_write(row, cell, spot), behind[0] if behind else None)
            for number, (_, reads, _) in enumerate(row[2]):
                expected = tuple(terms.written_by(row, cell, number) for cell in reads)
                self.assertEqual(terms.sources(row, number), expected)
                self.assertEqual(terms.writes_for(row, number), tuple(brute.writes_for(row, number)))


class CountingTest(unittest.TestCase):
    def test_counting(self):
        for row in many_rows():
            many = len(row[2])
            counting = brute.counting(row)
            self.assertEqual(terms.counting(row), counting)
            self.assertEqual(terms.dead_moves(row), tuple(sorted(set(range(many)) - set(counting))))
            for number in range(many):
                self.assertEqual(terms.move_counts(row, number), number in counting)

    def test_why(self):
        for row in many_rows():
            for number in range(len(row[2])):
                right = brute.whys(row, number)
                told = terms.why(row, number)
                if right:
                    self.assertIn(told, right)
                    self.assertTrue(terms.is_why(row, number, told))
                else:
                    self.assertIsNone(told)

    def test_is_why_of_all_tuples(self):
        for row in itertools.islice(brute.small_rows(), 0, None, 7):
            many = len(row[2])
            paths = [path for length in range(4) for path in itertools.product(range(-1, many + 1), repeat=length)]
            for number in range(many):
                right = brute.whys(row, number)
                for path in paths:
                    self.assertEqual(terms.is_why(row, number, path), path in right)

    def test_is_why_of_other_things(self):
        self.assertTrue(terms.is_why(TALE, 0, (0, 1)))
        for thing in STRANGE + with_strange_parts((0, 1)) + [[0, 1], (False, True), (0, True), (0, 1, 2, 3), nested(30)]:
            self.assertFalse(terms.is_why(TALE, 0, thing))
            self.assertEqual(refusal(terms.is_why, TALE, 4, thing), no_number(4))
        self.assertFalse(terms.is_why(TALE, 1, (True,)))
        self.assertTrue(terms.is_why(TALE, 1, (1,)))

    def test_last_use(self):
        for row in many_rows():
            counting = brute.counting(row)
            for number in range(len(row[2])):
                uses = [later for later in brute.writes_for(row, number) if later in counting]
                if number not in counting:
                    expected = None
                elif brute.held_at_end(row, number):
                    expected = len(row[2])
                else:
                    expected = max(uses)
                self.assertEqual(terms.last_use(row, number), expected)

    def test_errors(self):
        named = (terms.sources, terms.writes_for, terms.move_counts, terms.why, terms.last_use, terms.swap_free)
        for number in (-1, 4, 10 ** 9):
            for function in named:
                self.assertEqual(refusal(function, TALE, number), no_number(number))
        for function in named:
            self.assertEqual(refusal(function, STILL, 0), no_number(0))

    def test_what_is_needed(self):
        for row in many_rows():
            end = [term for one in brute.end(row, ()) for _, term in inner_terms(one)]
            self.assertEqual(terms.old_needed(row), tuple(sorted({term[1] for term in end if term[0] == "old"})))
            names = tuple(sorted({term[0] for term in end if term[0] != "old"}))
            self.assertEqual(terms.names_needed(row), names)
            counted = {row[2][number][0] for number in brute.counting(row)} - {"copy"}
            self.assertEqual(names, tuple(sorted(counted)))

    def test_lean(self):
        for row in many_rows():
            left = brute.counting(row)
            marks = {sum(1 for number in left if number < mark) for mark in row[3]} - {0, len(left)}
            expected = (row[0], row[1], tuple(row[2][number] for number in left), tuple(sorted(marks)))
            told = terms.lean(row)
            self.assertEqual(told, expected)
            self.assertTrue(rows.is_row(told))
            self.assertTrue(terms.ends_alike(row, told))
            if keeps(row):
                self.assertTrue(keeps(told))

    def test_marks_of_lean(self):
        moves = (("f", (), "b"), ("g", (), "a"), ("f", (), "b"), ("h", ("a",), "a"), ("f", (), "b"))
        for marks, left in (((1,), ()), ((2,), (1,)), ((2, 3), (1,)), ((4,), ()), ((1, 2, 3, 4), (1,)), ((), ())):
            self.assertEqual(terms.lean((("a", "b"), ("a",), moves, marks))[2:], ((moves[1], moves[3]), left))

    def test_ends_alike(self):
        own = (("a", "b"), ("a",), (("copy", ("b",), "a"),), ())
        other = (("a", "b", "c"), ("a",), (("copy", ("b",), "c"), ("f", (), "b"), ("copy", ("c",), "a")), (1,))
        self.assertTrue(terms.ends_alike(own, other))
        self.assertTrue(terms.ends_alike(other, own))
        self.assertFalse(terms.ends_alike(own, (own[0], ("a", "b"), own[2], ())))
        self.assertFalse(terms.ends_alike(own, (own[0], ("b",), own[2], ())))
        self.assertFalse(terms.ends_alike(own, (own[0], ("a",), (), ())))
        some = list(itertools.islice(brute.small_rows(), 0, None, 61))
        for one in some:
            for two in some:
                alike = one[1] == two[1] and brute.end(one, ()) == brute.end(two, ())
                self.assertEqual(terms.ends_alike(one, two), alike)


class SwapTest(unittest.TestCase):
    def test_free_swaps(self):
        for row in many_rows():
            found = []
            for number in range(len(row[2]) - 1):
                turned = rows.swapped(row, number)
                if brute.run(row, ())[1][number + 2] == brute.run(turned, ())[1][number + 2]:
                    found.append(number)
                    self.assertEqual(terms.swap_free(row, number), turned)
                else:
                    self.assertEqual(refusal(terms.swap_free, row, number), UNFIT)
            self.assertEqual(terms.free_swaps(row), tuple(found))
            if row[2]:
                self.assertEqual(refusal(terms.swap_free, row, len(row[2]) - 1), UNFIT)

    def test_neighbours_apart(self):
        for row in many_rows():
            for number, (one, two) in enumerate(zip(row[2], row[2][1:])):
                if one[2] != two[2] and one[2] not in two[1] and two[2] not in one[1]:
                    self.assertIn(number, terms.free_swaps(row))

    def test_free_by_what_cells_hold(self):
        moves = (("copy", ("a",), "b"), ("copy", ("a",), "c"), ("copy", ("b",), "c"), ("f", ("c",), "b"), ("f", ("a",), "b"))
        row = (("a", "b", "c"), ("b",), moves, (3,))
        self.assertEqual(terms.free_swaps(row), (0, 1, 3))

    def test_is_led_to(self):
        some = [row for row in brute.small_rows() if len(row[2]) == 3][::150]
        some += [(*rows.unmarked(row)[:2], moves, ()) for row in some[:6] for moves in itertools.permutations(row[2])]
        for row in some:
            led = {row[2]}
            todo = [row[2]]
            while todo:
                one = row[:2] + (todo.pop(), row[3])
                for number in terms.free_swaps(one):
                    moves = rows.swapped(one, number)[2]
                    if moves not in led:
                        led.add(moves)
                        todo.append(moves)
            for other in some:
                same = (row[0], row[1], row[3]) == (other[0], other[1], other[3])
                self.assertEqual(terms.is_led_to(row, other), same and other[2] in led)

    def test_is_led_to_by_several_swaps(self):
        moves = tuple(("f", (), cell) for cell in "abcdef")
        row = (tuple("abcdef"), ("a",), moves, (3,))
        self.assertTrue(terms.is_led_to(row, row[:2] + (moves[::-1], (3,))))
        self.assertFalse(terms.is_led_to(row, row[:2] + (moves[::-1], (2,))))
        self.assertFalse(terms.is_led_to(row, (row[0], ("b",), moves, (3,))))
        self.assertFalse(terms.is_led_to(row, (tuple("abcdefg"), ("a",), moves, (3,))))
        self.assertFalse(terms.is_led_to(row, row[:2] + (moves[:5] + moves[:1], (3,))))
        bound = moves[:2] + (("g", ("b", "c"), "c"),) + moves[3:]
        back = bound[:1] + (bound[2], bound[1]) + bound[3:]
        self.assertFalse(terms.is_led_to(row[:2] + (bound, ()), row[:2] + (back, ())))


def small_terms():
    level = [("old", "a"), ("old", "b"), ("spoilt", 0), ("spoilt", 1), ("f", ()), ("g", ())]
    yield from level
    for name in "fg":
        for many in (1, 2):
            for parts in itertools.product(level[:5], repeat=many):
                yield (name, parts)
    yield ("h", (("f", (("g", (OLD, ("spoilt", 1))),)), ("g", ()), OLD))
    yield ("h", (("f", (("g", (OLD, ("spoilt", 2))),)), ("g", ()), OLD))
    yield ("h", (("f", (("g", (OLD,)),)), ("g", ()), ("old", "c")))


class TermTest(unittest.TestCase):
    def test_is_term(self):
        for one in small_terms():
            self.assertTrue(terms.is_term(one))
            for bent in list_at_each_depth(one):
                self.assertFalse(terms.is_term(bent))
        for row in itertools.islice(many_rows(), 0, None, 11):
            for one in brute.contents(row, brute.run(row, ())[1][-1]):
                self.assertTrue(terms.is_term(one))

    def test_is_no_term(self):
        wrong = [
            ("old", "A"), ("old", ""), ("old", "abcdefghi"), ("old", 1), ("old", ()), ("old", OLD), ("old",), ("old", "a", "b"),
            ("spoilt", -1), ("spoilt", True), ("spoilt", False), ("spoilt", "a"), ("spoilt", None), ("spoilt", ()),
            ("copy", (OLD,)), ("copy", ()), ("f", "a"), ("f", OLD), ("f", (OLD, "a")), ("f", 0), ("f", None), ("F", ()),
            ("", ()), ("abcdefghi", ()), (1, ()), ((), ()), (None, ()), ("f", (("copy", ()),)), ("f", ((),)), (("f", ()),),
            ("f", ((), ())), ("f", (nested(20),)), nested(30), (nested(20), ()),
        ]
        for thing in STRANGE + wrong + with_strange_parts(("f", (OLD, ("g", (("spoilt", 3),))))):
            self.assertFalse(terms.is_term(thing), thing)
        for thing in (("old", "abcdefgh"), ("spoilt", 10 ** 30), ("f", (OLD,) * 1000), ("abcdefgh", ())):
            self.assertTrue(terms.is_term(thing))

    def test_what_is_in_it(self):
        for one in small_terms():
            inner = [term for _, term in inner_terms(one)]
            self.assertEqual(terms.term_size(one), len(inner))
            self.assertEqual(terms.term_depth(one), 1 + max(len(path) for path, _ in inner_terms(one)))
            for function, kind in ((terms.term_cells, "old"), (terms.term_losses, "spoilt")):
                self.assertEqual(function(one), tuple(sorted({term[1] for term in inner if term[0] == kind})))
            names = tuple(sorted({term[0] for term in inner} - {"old", "spoilt"}))
            self.assertEqual(terms.term_names(one), names)

    def test_parts(self):
        for one in small_terms():
            for path, term in inner_terms(one):
                self.assertEqual(terms.part_of(one, path), term)
                parts = 0 if term[0] in ("old", "spoilt") else len(term[1])
                for place in (-1, parts, 10 ** 9):
                    self.assertEqual(refusal(terms.part_of, one, (*path, place)), UNFIT)
                    self.assertEqual(refusal(terms.part_of, one, (*path, place, 0)), UNFIT)

    def test_first_unlike(self):
        for one in small_terms():
            for two in small_terms():
                mine = {path: (term[0], term[1] if term[0] in ("old", "spoilt") else len(term[1]))
                        for path, term in inner_terms(one)}
                other = {path: (term[0], term[1] if term[0] in ("old", "spoilt") else len(term[1]))
                         for path, term in inner_terms(two)}
                unlike = [path for path in mine if path in other and mine[path] != other[path]]
                self.assertEqual(terms.first_unlike(one, two), min(unlike, default=None))
                self.assertEqual(terms.first_unlike(one, two) is None, one == two)

    def test_great_ones(self):
        deep = OLD
        for _ in range(1999):
            deep = ["f", [deep]]
        self.assertEqual((terms.term_size(deep), terms.term_depth(deep)), (2000, 2000))
        self.assertEqual((terms.term_cells(deep), terms.term_names(deep), terms.term_losses(deep)), (("a",), ("f",), ()))
        self.assertIsNone(terms.first_unlike(deep, deep))
        self.assertEqual(terms.first_unlike(deep, ["f", [deep]]), (0,) * 1999)
        self.assertEqual(terms.part_of(deep, (0,) * 1998), ("f", (OLD,)))
        self.assertEqual(terms.term_depth(terms.part_of(deep, ())), 2000)
        self.assertTrue(terms.is_term(terms.part_of(deep, (0,))))
        wide = ("f", (OLD,) * 1999)
        self.assertEqual((terms.term_size(wide), terms.term_depth(wide)), (2000, 2))

    def test_terms_of_long_rows(self):
        row = SINGLE[:2] + ((("f", ("a",), "a"),) * 10, ())
        for _ in range(8):
            row = rows.joined(row, row)
        deep = terms.end_terms(row)[0]
        self.assertTrue(terms.is_term(deep))
        self.assertEqual(terms.term_depth(deep), 2561)
        self.assertTrue(terms.ends_alike(row, rows.unmarked(row)))
        self.assertEqual(len(terms.counting(row)), 2560)

    def test_a_row_of_the_readme(self):
        self.assertEqual(terms.end_terms(ROW), (("f", (OLD, ("old", "b"))), ("g", (OLD,))))


if __name__ == "__main__":
    unittest.main()
