"""Point 15: CLAIMS, REASONS and WORDS."""

import itertools
import time
import unittest

from atanywrite.claims import (
    claim_of, first_fallen, is_claim, is_reason_against, is_reason_for, reason_against, reason_for, stands, word_from,
    word_text,
)
from tests import brute, brute_edits, brute_fleets
from tests.common import (
    CHANGE, ROW, SINGLE, STILL, STRANGE, UNFIT, bad_text, list_at_each_depth, listed, nested, refusal, with_strange_parts,
)
from tests.samples import RING, SURE, SWAP, TALE
from tests.samples_board import CLAIMS, MIX
from tests.samples_fleets import QUICK, RASH

ROWS = [ROW, STILL, SINGLE, SWAP, SURE, TALE, MIX, *list(brute.small_rows())[::61], *list(brute.long_rows(311))]
SMALL = [row for row in brute.small_rows() if len(row[2]) < 3][::9]
CHANGES = [CHANGE, RING, *list(brute.small_changes())[::29]]


def words_of(row):
    found = [("keeps",), *[("cell", cell) for cell in row[0]]]
    found += [("dead", number) for number in range(len(row[2]))]
    return found + [("marked", number) for number in range(len(row[2]) + 1)]


def claim_with(row, word):
    return (word[0], row, *word[1:])


def claims_of_rows(rows):
    return [(row, word, claim_with(row, word)) for row in rows for word in words_of(row)]


def read_first(row, first, last):
    return {cell for number in brute.counting(row) if first <= number < last
            for cell in row[2][number][1] if not brute.writes_between(row, cell, first, number)}


def stretches(row):
    spots = brute.marked(row)
    return list(zip(spots, spots[1:]))


def has_wrong_order(parts):
    return any(list(part) != sorted(set(part)) for part in parts)


def is_for(row, word, thing):
    """Whether thing, of the right kinds, is a REASON for the CLAIM, as the table says."""
    if word[0] in ("keeps", "cell"):
        kept = row if word[0] == "keeps" else (row[0], (word[1],)) + row[2:]
        if len(thing) != len(stretches(kept)):
            return False
        for (first, last), (one, other) in zip(stretches(kept), thing):
            written = {kept[2][number][2] for number in range(first, last)}
            if set(one) & set(other) or not read_first(kept, first, last) <= set(one) or not written <= set(other):
                return False
        return True
    if word[0] == "dead":
        if len(thing) != len(row[2]) + 1 or not set(row[1]) <= set(thing[-1]):
            return False
        for at, (_, reads, cell) in enumerate(row[2]):
            needed = set(thing[at + 1]) - {cell} | (set(reads) if cell in thing[at + 1] else set())
            if not needed <= set(thing[at]):
                return False
        return row[2][word[1]][2] not in thing[word[1] + 1]
    return len(thing) <= word[1] and thing in brute.markings(row)


def sets_of(cells):
    return list(brute.subsets(cells))


class ClaimTest(unittest.TestCase):
    def test_claims(self):
        for claim in CLAIMS + [claim for _, _, claim in claims_of_rows(ROWS)]:
            self.assertIs(is_claim(claim), True, claim)
        for change, spares in itertools.product(CHANGES, (1, 2, 10 ** 30)):
            self.assertIs(is_claim(("made", change, spares)), True)
        for claim in (("marked", ROW, 10 ** 30), ("mild", QUICK, 1, 0), ("mild", ((0, "a", 10 ** 30),), 10 ** 30, 0)):
            self.assertIs(is_claim(claim), True)

    def test_nearly_claims(self):
        for thing in (
            ("keeps",), ("keeps", ROW, 0), ("keeps", ROW[:3]), ("keeps", CHANGE), ("cell", ROW), ("cell", ROW, "x"), ("cell", ROW, 0),
            ("cell", ROW, ""), ("cell", ROW, ("a",)), ("dead", ROW), ("dead", ROW, 3), ("dead", ROW, -1), ("dead", ROW, True),
            ("dead", STILL, 0), ("dead", ROW, "0"), ("marked", ROW), ("marked", ROW, -1), ("marked", ROW, False), ("made", CHANGE),
            ("made", CHANGE, 0), ("made", CHANGE, True), ("made", ROW, 1), ("made", CHANGE, 1, 1), ("mild", RASH, 10), ("mild", RASH, 0, 3),
            ("mild", RASH, 10, -1), ("mild", RASH, True, 3), ("mild", RASH, 10, False), ("mild", RASH[::-1], 10, 3), ("mild", ((0, "A", 1),), 1, 1),
            ("mild", ((0, "a", 0),), 1, 1), ("mild", ((0, "a", 1), (0, "a", 2)), 1, 1), ("mild", CHANGE, 1, 1), ("x", ROW), ("mild", RASH, 10, 3, 0),
            ("", ROW), (None, ROW), (True, ROW), (("keeps",), ROW), (["keeps"], ROW), ("keeps", nested(28)), ("Keeps", ROW),
        ):
            self.assertIs(is_claim(thing), False, thing)

    def test_things_of_other_kinds(self):
        for thing in STRANGE + [nested(29), nested(28, "keeps"), ROW, CHANGE, RASH]:
            self.assertIs(is_claim(thing), False, thing)
        for claim in CLAIMS:
            for thing in list_at_each_depth(claim) + with_strange_parts(claim) + [listed(claim)]:
                self.assertIs(is_claim(thing), False, thing)

    def test_unfit(self):
        for function, more in ((stands, ()), (reason_for, ()), (reason_against, ()), (is_reason_for, (1,)), (is_reason_against, (1,))):
            for claim in (1, None, "keeps", (), [], ("keeps",), ("cell", ROW, "x"), ("dead", ROW, 3), ("made", CHANGE, 0), ("mild", RASH, 0, 0)):
                self.assertEqual(refusal(function, claim, *more), UNFIT, claim)
        self.assertEqual(refusal(first_fallen, (("keeps", MIX), ("keeps",))), UNFIT)
        self.assertEqual(refusal(first_fallen, [None]), UNFIT)


class StandTest(unittest.TestCase):
    def check_one_side(self, claim, right):
        self.assertIs(stands(claim), right, claim)
        for_it, against = reason_for(claim), reason_against(claim)
        self.assertEqual((for_it is None, against is None), (not right, right), claim)
        self.assertEqual((reason_for(listed(claim)), reason_against(listed(claim))), (for_it, against))
        for thing in (for_it, against):
            self.assertIs(is_reason_for(claim, thing), right and thing is for_it and thing is not None, claim)
            self.assertIs(is_reason_against(claim, thing), not right and thing is against and thing is not None, claim)

    def test_words_of_rows(self):
        for row, word, claim in claims_of_rows(ROWS):
            self.check_one_side(claim, brute_edits.stands(row, word))

    def test_changes(self):
        for change, spares in itertools.product(CHANGES, (1, 2, 3)):
            right = any(brute.need_of(change, order) <= spares for order in itertools.permutations(change[0]))
            self.check_one_side(("made", change, spares), right)
            for order in itertools.permutations(change[0]):
                self.assertIs(is_reason_for(("made", change, spares), order), brute.need_of(change, order) <= spares)

    def test_rollouts(self):
        for at, (_, rollout) in enumerate(brute_fleets.small_rollouts()):
            for delay, most in itertools.product((1, 3), (0, 1, 2)) if at % 7 == 0 else ():
                self.check_one_side(("mild", rollout, delay, most), brute_fleets.worst(rollout, delay) <= most)

    def test_reasons_for_mild(self):
        claim = ("mild", RASH, 10, 5)
        for first, second in itertools.product(range(8), repeat=2):
            self.assertIs(is_reason_for(claim, ((0, first), (4, second))), 4 <= first <= 5 and 1 <= second <= 5)
        right = ((0, 4), (4, 1))
        self.assertIs(is_reason_for(claim, right), True)
        bent = [((4, 1), (0, 4)), ((0, 4),), ((0, 4), (4, 1), (9, 1)), ((0, 4), (5, 1)), ((0, 4), (4, True)), ((False, 4), (4, 1))]
        for thing in STRANGE + bent + list_at_each_depth(right) + with_strange_parts(right):
            self.assertIs(is_reason_for(claim, thing), False, thing)
        self.assertIs(is_reason_for(("mild", (), 1, 0), ()), True)

    def test_a_row_keeps_just_if_each_wanted_cell_alone_does(self):
        for row in ROWS:
            self.assertIs(stands(("keeps", row)), all(stands(("cell", row, cell)) for cell in row[1]))

    def test_heights_of_rows_that_no_marks_make_keep(self):
        row = (("a", "b"), ("a", "b"), (("f", ("a",), "a"), ("g", ("a",), "b"), ("h", ("b",), "b")), (1,))
        for number in (0, 1, 5, 10 ** 30):
            self.check_one_side(("marked", row, number), False)
            self.assertGreater(reason_against(("marked", row, number))[-1], number + 1)


class ReasonTest(unittest.TestCase):
    def test_keep_sets_by_the_words(self):
        for row, word, claim in claims_of_rows(SMALL):
            if word[0] in ("keeps", "cell"):
                pairs = list(itertools.product(sets_of(row[0]), repeat=2))
                for thing in itertools.product(pairs, repeat=len(stretches(row))):
                    self.assertIs(is_reason_for(claim, thing), is_for(row, word, thing), (claim, thing))

    def test_needed_sets_by_the_words(self):
        for row, word, claim in claims_of_rows(SMALL):
            if word[0] == "dead":
                for thing in itertools.product(sets_of(row[0]), repeat=len(row[2]) + 1):
                    self.assertIs(is_reason_for(claim, thing), is_for(row, word, thing), (claim, thing))

    def test_markings_and_heights_by_the_words(self):
        for row, word, claim in claims_of_rows(SMALL):
            if word[0] != "marked":
                continue
            for thing in brute.subsets(range(len(row[2]) + 1)):
                self.assertIs(is_reason_for(claim, thing), is_for(row, word, thing), (claim, thing))
            last = len(row[2])
            for thing in itertools.product(range(word[1] + 4), repeat=last + 1):
                spans = [(first, end) for first in range(last) for end in range(first + 1, last + 1)
                         if not brute.hazards_within(row, first, end)]
                right = thing[0] == 0 and all(thing[end] <= thing[first] + 1 for first, end in spans)
                self.assertIs(is_reason_against(claim, thing), right and thing[-1] > word[1] + 1, (claim, thing))

    def test_plays_and_whys_by_the_words(self):
        for row, word, claim in claims_of_rows(SMALL + ROWS[:7]):
            if word[0] in ("keeps", "cell"):
                kept = row if word[0] == "keeps" else (row[0], (word[1],)) + row[2:]
                for many in range(3):
                    for thing in itertools.product(range(-1, len(row[2]) + 1), repeat=many):
                        right = brute.is_play(row, thing) and brute.end(kept, thing) != brute.end(kept, ())
                        self.assertIs(is_reason_against(claim, thing), right, (claim, thing))
            if word[0] == "dead":
                for thing in brute.subsets(range(len(row[2]) + 1)):
                    self.assertIs(is_reason_against(claim, thing), thing in brute.whys(row, word[1]), (claim, thing))

    def test_bent_reasons(self):
        for claim in CLAIMS:
            reason = reason_for(claim) if stands(claim) else reason_against(claim)
            is_reason = is_reason_for if stands(claim) else is_reason_against
            self.assertIs(is_reason(claim, reason), True)
            for thing in list_at_each_depth(reason) + with_strange_parts(reason) + [listed(reason)]:
                self.assertIs(is_reason(claim, thing), False, (claim, thing))
            for thing in STRANGE + [nested(29), nested(28, "a")]:
                self.assertIs(is_reason_for(claim, thing), thing == reason and isinstance(thing, tuple) and stands(claim), (claim, thing))
                # Many losses at the first move are a PLAY, too.
                if claim[0] != "marked" and thing != (0,) * 1000:
                    self.assertIs(is_reason_against(claim, thing), False, (claim, thing))

    def test_sets_that_are_none(self):
        claim = ("keeps", (("a", "b", "c"), ("b",), (("f", ("a",), "b"),), ()))
        self.assertIs(is_reason_for(claim, ((("a", "c"), ("b",)),)), True)
        for thing in (
            ((("c", "a"), ("b",)),), ((("a", "a"), ("b",)),), ((("a", "x"), ("b",)),), ((("a",), ("b", "b")),), (("a", "b"),), ((("a",), ("b",), ()),),
            ((("a",),),), ((("a",), ("b",)), ((), ())), (), ((("a", "b"), ("b",)),), (((), ("b",)),), ((("a",), ()),), ((("a", 1), ("b",)),),
        ):
            self.assertIs(is_reason_for(claim, thing), False, thing)

    def test_first_fallen(self):
        for many in range(4):
            for claims in itertools.product([CLAIMS[0], CLAIMS[1], CLAIMS[4], CLAIMS[11]], repeat=many):
                fallen = [number for number, claim in enumerate(claims) if not stands(claim)]
                told = first_fallen(claims)
                self.assertEqual(first_fallen(listed(claims)), told)
                if not fallen:
                    self.assertIsNone(told)
                else:
                    self.assertEqual(told[0], fallen[0])
                    self.assertIs(is_reason_against(claims[told[0]], told[1]), True)

    def test_long_ones_are_answered_soon(self):
        moves = tuple(("f", ("a", "b", "c"), cell) for cell in "abcdefabcd")
        row = (("a", "b", "c", "d", "e", "f"), ("a", "b"), moves, (3, 6))
        started = time.perf_counter()
        for word in words_of(row):
            claim = claim_with(row, word)
            self.assertEqual(reason_for(claim) is None, reason_against(claim) is not None)
        change = (tuple("abcdef"), tuple(("f", tuple("abcdef"[at:] + "abcdef"[:at])) for at in range(6)))
        for spares in range(1, 7):
            self.assertEqual(reason_for(("made", change, spares)) is None, reason_against(("made", change, spares)) is not None)
        self.assertLess(time.perf_counter() - started, 5)


class WordTest(unittest.TestCase):
    def test_claim_of(self):
        for row, word, claim in claims_of_rows(ROWS):
            self.assertEqual(claim_of(row, word), claim)
            self.assertEqual(claim_of(listed(row), list(word)), claim)
        for word in (("cell", "x"), ("dead", 3), ("dead", -1), ("marked", -1), ("made", 1), ("x",), (), 1, None, "keeps", ("keeps", 1), ("cell",),
                     ("dead", "0"), ("cell", 0), ("marked",), ("mild", 1, 1)):
            self.assertEqual(refusal(claim_of, ROW, word), UNFIT, word)
        self.assertEqual(refusal(claim_of, STILL, ("dead", 0)), UNFIT)

    def test_there_and_back(self):
        for row in ROWS:
            for word in words_of(row):
                self.assertEqual(word_from(word_text(word)), word)
                self.assertEqual(word_text(list(word)), word_text(word))
        self.assertEqual([word_text(word) for word in (("keeps",), ("cell", "ab"), ("dead", 0), ("marked", 12))],
                         ["keeps", "cell ab", "dead 0", "marked 12"])
        self.assertEqual(word_from("marked " + "9" * 40), ("marked", int("9" * 40)))

    def test_texts_that_are_no_words(self):
        for text in (
            "", " ", "keeps ", " keeps", "keeps a", "Keeps", "keep", "cell", "cell ", "cell A", "cell a b", "cell  a", "cell ninechars", "cell 1",
            "dead", "dead -1", "dead 01", "dead 00", "dead a", "dead 1 ", "dead\n1", "marked", "marked 1.", "marked \u0661", "made 1", "mild", "a",
            "cell \u00e4", "keeps\n", "dead +1", "dead 1_0", "marked \u00b2",
        ):
            self.assertEqual(refusal(word_from, text), bad_text(0), text)

    def test_bent_in_one_place(self):
        right = {word_text(word) for row in ROWS for word in words_of(row)}
        for text in ("keeps", "cell a", "dead 1", "marked 0"):
            for at, sign in itertools.product(range(len(text)), "aZ0 -;"):
                bent = text[:at] + sign + text[at + 1:]
                fits = bent in right or bent.split(" ")[0] in ("dead", "marked") and len(bent.split(" ")) == 2 and bent.split(" ")[1] in "0123456789"
                if not fits or bent.endswith(" "):
                    self.assertEqual(refusal(word_from, bent), None if bent in right else bad_text(0), bent)


if __name__ == "__main__":
    unittest.main()
