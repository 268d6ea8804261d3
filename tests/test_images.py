"""Point 10: IMAGES, WAYS, MAKINGS, the CHANGES by them, and one CHANGE behind another."""

import itertools
import unittest

from atanywrite import images
from tests import brute
from tests.common import CHANGE, STRANGE, UNFIT, list_at_each_depth, nested, refusal, with_strange_parts

CAN_NOT = ("CanNot", {})
OLD = (("a", "pq"), ("b", "rs"), ("c", "tu"))
NEW = (("a", "xp"), ("b", "qr"), ("c", "st"))
RING = (("a", "st"), ("b", "up"), ("c", "qr"))
LONG = (("a", "pqr"), ("b", "stu"), ("c", "vwx"))
OTHERS = (("a", "pq"), ("b", "rs"), ("d", "tu"))
FEWER = OLD[:2]


def no_block(name):
    return ("NoBlock", {"name": name})


def small_images(blocks, letters, length):
    for texts in itertools.product(map("".join, itertools.product(letters, repeat=length)), repeat=len(blocks)):
        yield tuple(zip(blocks, texts))


def pairs():
    """Pairs of small IMAGES."""
    yield from itertools.product(small_images(("a",), "pq", 1), repeat=2)
    yield from itertools.product(small_images(("a",), "pq", 3), repeat=2)
    yield from itertools.product(small_images(("a", "b"), "pq", 1), repeat=2)
    yield from itertools.product(small_images(("a", "b"), "pq", 2), repeat=2)
    yield from itertools.islice(itertools.product(small_images(("a", "b", "c"), "pqr", 1), repeat=2), 0, None, 7)
    three = list(itertools.islice(small_images(("a", "bb", "c"), "pqr", 2), 0, None, 17))
    yield from itertools.islice(itertools.product(three, repeat=2), 0, None, 11)
    yield from [(OLD, NEW), (OLD, RING), (NEW, OLD), (RING, NEW), (OLD, OLD)]


def some_pairs(step):
    return itertools.islice(pairs(), 0, None, step)


def kinds(image, texts):
    """All WAYS as to their kinds, of blocks of the image, raw ones with these texts."""
    blocks = [block for block, _ in image]
    found = [("copy", near) for near in blocks] + [("raw", text) for text in texts]
    for near, far in itertools.product(blocks, repeat=2):
        found += [("shift", near, far, number) for number in range(1, len(image[0][1]))]
    return found


def text_by(image, way):
    texts = dict(image)
    if way[0] == "raw":
        return way[1]
    if way[0] == "copy":
        return texts[way[1]]
    return texts[way[1]][way[3]:] + texts[way[2]][:way[3]]


def ways(image, other, block):
    text = dict(other)[block]
    return sorted(way for way in kinds(image, [text]) if text_by(image, way) == text)


def makings(image, other):
    return list(itertools.product(*[ways(image, other, block) for block, _ in other]))


def letters(making):
    return sum(len(text) for text in {way[1] for way in making if way[0] == "raw"})


def reads(way):
    return {"raw": (), "copy": way[1:2], "shift": tuple(dict.fromkeys(way[1:3]))}[way[0]]


def change_by(image, making):
    raw = sorted({way[1] for way in making if way[0] == "raw"})
    recipes = []
    for way in making:
        if way[0] == "copy":
            recipes.append(("copy", (way[1],)))
        elif way[0] == "raw":
            recipes.append(("raw" + "abcdefgh"[raw.index(way[1])], ()))
        else:
            kind = "turn" if way[1] == way[2] else "shift"
            recipes.append((kind + "abcdefgh"[way[3] - 1], reads(way)))
    return (tuple(block for block, _ in image), tuple(recipes))


def fits(image, making, spares):
    return brute.orders_with(change_by(image, making), spares) != []


class ImageTest(unittest.TestCase):
    def test_is_image(self):
        for image in [OLD, NEW, RING, LONG, FEWER, (("a", "a"),), (("abcdefgh", "z" * 100),)]:
            self.assertTrue(images.is_image(image))
            for thing in with_strange_parts(image) + list_at_each_depth(image):
                self.assertFalse(images.is_image(thing), thing)
        wrong = [
            (("b", "p"), ("a", "q")), (("a", "p"), ("a", "q")), (("a", "p"), ("a", "p")), (("a", ""),), (("a", "P"),),
            (("a", "p q"),), (("a", "p\u00e4"),), (("a", "\u0561"),), (("a", "p1"),), (("a", "p"), ("b", "pq")), (("A", "p"),), (("", "p"),), (("abcdefghi", "p"),), (("a", "p", "q"),),
            (("a",),), ("ap",), ("ap", "bq"), (("a", ("p",)),), (("a", 1),), ((1, "p"),), ((("a",), "p"),), nested(30), {},
        ]
        for thing in STRANGE + wrong:
            self.assertFalse(images.is_image(thing), thing)

    def test_texts(self):
        for block, text in OLD:
            self.assertEqual(images.text_of(OLD, block), text)
        for name in ("z", "", "A", "pq"):
            self.assertEqual(refusal(images.text_of, OLD, name), no_block(name))

    def test_apart_and_moved_on(self):
        for image, other in pairs():
            apart = tuple(block for (block, text), (_, new) in zip(image, other) if text != new)
            self.assertEqual(images.apart(image, other), apart)
            old, new = ["".join(text for _, text in one) for one in (image, other)]
            moved = [number for number in range(len(old)) if new.endswith(old[:len(old) - number])]
            self.assertEqual(images.moved_on(image, other), min(moved, default=None))
        self.assertEqual(images.moved_on(OLD, (("a", "xx"), ("b", "xx"), ("c", "xp"))), 5)
        self.assertIsNone(images.moved_on(OLD, (("a", "xx"), ("b", "xx"), ("c", "xx"))))
        self.assertEqual(images.moved_on(OLD, OLD), 0)

    def test_unfit(self):
        functions = (images.apart, images.moved_on, images.least_making, images.letters_by_spares)
        far = tuple((name, text) for name, (_, text) in zip("xyz", OLD))
        for other in (LONG, OTHERS, FEWER, FEWER + (("c", "tu"), ("d", "vw"))):
            for one, two in ((OLD, other), (other, OLD)):
                for function in functions:
                    self.assertEqual(refusal(function, one, two), UNFIT)
                self.assertEqual(refusal(images.ways, one, two, "a"), UNFIT)
                self.assertEqual(refusal(images.is_way, one, two, "a", ("copy", "a")), UNFIT)
                self.assertEqual(refusal(images.is_way, one, two, "z", ("copy", "a")), no_block("z"))
                self.assertEqual(refusal(images.ways, one, two, "z"), no_block("z"))
                self.assertEqual(refusal(images.lean_making, one, two, 1), UNFIT)
                for thing in STRANGE:
                    self.assertEqual(refusal(images.is_making, one, two, thing), UNFIT)
                self.assertEqual(refusal(images.change_by, one, two, (("copy", "a"),) * 3), UNFIT)
                self.assertEqual(refusal(images.fits, one, two, (("copy", "a"),) * 3, 1), UNFIT)
                self.assertEqual(refusal(images.change_by, one, two, (("copy", "z"),) * 3), no_block("z"))
                self.assertEqual(refusal(images.fits, one, two, (("copy", "z"),), 1), no_block("z"))
        for function in functions:
            self.assertEqual(refusal(function, OLD, far), UNFIT)
        self.assertEqual(refusal(images.lean_making, OLD, far, 1), UNFIT)
        self.assertEqual(refusal(images.is_making, OLD, far, ()), UNFIT)
        # A block of the other IMAGE alone is none.
        self.assertEqual(refusal(images.ways, OLD, OTHERS, "d"), no_block("d"))
        self.assertEqual(refusal(images.ways, OLD, OTHERS, "c"), UNFIT)


class WayTest(unittest.TestCase):
    def test_ways(self):
        for image, other in pairs():
            for block, text in other:
                right = ways(image, other, block)
                told = images.ways(image, other, block)
                self.assertEqual(told, right)
                told.append(())
                self.assertEqual(images.ways(image, other, block), right)
                for way in kinds(image, [text, text[::-1], text + "p"]):
                    self.assertEqual(images.is_way(image, other, block, way), way in right)
                    self.assertEqual(images.text_by(image, way), text_by(image, way))

    def test_no_ways(self):
        for way in ways(OLD, NEW, "b"):
            self.assertTrue(images.is_way(OLD, NEW, "b", way))
            for thing in with_strange_parts(way) + list_at_each_depth(way) + [(*way, 1), way[:-1], (*way, "a")]:
                self.assertFalse(images.is_way(OLD, NEW, "b", thing), thing)
        wrong = [("shift", "a", "b", True), ("shift", "a", "b", 0), ("shift", "a", "b", 2), ("shift", "a", "b", -1), ("shift", "a", "b"),
                 ("shift", "a", "z", 1), ("shift", "z", "a", 1), ("copy", "z"), ("raw", "rq"), ("raw", ""), ("turn", "a", 1), nested(30),
                 ("shift", "a", "b", "a"), ("shift",), ("raw",), ("copy",), (("raw",), "qr"), ("raw", ("qr",)), ("qr",), "raw"]
        for thing in STRANGE + wrong:
            self.assertFalse(images.is_way(OLD, NEW, "b", thing), thing)
            self.assertEqual(refusal(images.is_way, OLD, NEW, "z", thing), no_block("z"))

    def test_text_by(self):
        for number in (-1, 0, 2, 3, 10 ** 9):
            self.assertEqual(refusal(images.text_by, OLD, ("shift", "a", "b", number)), UNFIT)
            self.assertEqual(refusal(images.text_by, OLD, ("shift", "a", "z", number)), no_block("z"))
            self.assertEqual(refusal(images.text_by, OLD, ("shift", "y", "z", number)), no_block("y"))
        self.assertEqual(refusal(images.text_by, OLD, ("copy", "z")), no_block("z"))
        self.assertEqual(images.text_by(OLD, ("raw", "abcabc")), "abcabc")
        self.assertEqual(images.text_by(LONG, ["shift", "b", "b", 2]), "ust")
        self.assertEqual(refusal(images.text_by, (("a", "p"),), ("shift", "a", "a", 1)), UNFIT)


class MakingTest(unittest.TestCase):
    def test_makings(self):
        for image, other in some_pairs(3):
            right = makings(image, other)
            for making in right[:50]:
                self.assertTrue(images.is_making(image, other, making))
                self.assertEqual(images.image_by(image, making), other)
                self.assertEqual(images.letters(making), letters(making))
                self.assertEqual(images.change_by(image, other, making), change_by(image, making))
            for making in itertools.islice(itertools.product(kinds(image, ["p"]), repeat=len(image)), 0, None, 37):
                self.assertEqual(images.is_making(image, other, making), making in right)
                if making not in right:
                    self.assertEqual(refusal(images.change_by, image, other, making), UNFIT)
                    self.assertEqual(refusal(images.fits, image, other, making, 1), UNFIT)

    def test_no_makings(self):
        making = (("raw", "xp"), ("shift", "a", "b", 1), ("shift", "b", "c", 1))
        self.assertTrue(images.is_making(OLD, NEW, making))
        wrong = [making[:2], (*making, making[2]), making[::-1], nested(30), list(making), ("raw", "xp", "qr")]
        for thing in STRANGE + wrong + with_strange_parts(making) + list_at_each_depth(making):
            self.assertFalse(images.is_making(OLD, NEW, thing), thing)
        for short in ((), making[:2], (*making, making[2])):
            self.assertEqual(refusal(images.change_by, OLD, NEW, short), UNFIT)
            self.assertEqual(refusal(images.image_by, OLD, short), UNFIT)
            self.assertEqual(refusal(images.image_by, OLD, (*short, ("copy", "z"))), no_block("z"))
            self.assertEqual(refusal(images.change_by, OLD, NEW, (*short, ("shift", "a", "y", 1))), no_block("y"))

    def test_what_is_no_making_at_all(self):
        way = ("copy", "a")
        for wrong in (1, "copy", (), ("copy",), ("copy", "z", "y"), ("swap", "z"), ("shift", "z", "y"), ("copy", None),
                      ("raw", ("z",)), ("shift", "z", "a", "b"), None, True, ("copy", ("z",))):
            for making in ((wrong,) * 3, (way, way, wrong), (wrong, way, way)):
                self.assertEqual(refusal(images.change_by, OLD, NEW, making), UNFIT)
                self.assertEqual(refusal(images.fits, OLD, NEW, making, 1), UNFIT)
            self.assertEqual(refusal(images.change_by, OLD, NEW, (wrong, ("copy", "z"), way)), no_block("z"))

    def test_image_by(self):
        made = images.image_by(OLD, (("copy", "c"), ("shift", "a", "a", 1), ("raw", "zz")))
        self.assertEqual(made, (("a", "tu"), ("b", "qp"), ("c", "zz")))
        raw = (("raw", "long"), ("raw", "text"), ("raw", "here"))
        self.assertEqual(images.image_by(OLD, raw), (("a", "long"), ("b", "text"), ("c", "here")))
        self.assertEqual(refusal(images.image_by, OLD, (*raw[:2], ("copy", "a"))), UNFIT)
        self.assertEqual(refusal(images.image_by, OLD, (("raw", "p"), ("raw", "q"), ("copy", "a"))), UNFIT)
        for number in (0, 2):
            shift = ("shift", "a", "b", number)
            self.assertEqual(refusal(images.image_by, OLD, (shift, shift, shift)), UNFIT)
            self.assertEqual(refusal(images.image_by, OLD, (shift, shift, ("copy", "x"))), no_block("x"))

    def test_letters(self):
        self.assertEqual(images.letters(()), 0)
        self.assertEqual(images.letters((("raw", "ab"), ("raw", "ab"), ("copy", "a"), ("raw", "cd"))), 4)
        self.assertEqual(images.letters([["raw", "ab"], ["raw", "abc"]]), 5)

    def test_names_in_changes(self):
        image = tuple((block, text) for block, text in zip("abcdef", ["abcdefgh", "bcdefgha", "cdefghab", "x" * 8, "y" * 8, "z" * 8]))
        other = tuple((block, text) for block, text in zip("abcdef", ["h" * 8, "g" * 8, "h" * 8, "bcdefgha", "habcdefg", "zzyyyyyy"]))
        making = (("raw", "h" * 8), ("raw", "g" * 8), ("raw", "h" * 8), ("shift", "a", "a", 1), ("shift", "a", "a", 7), ("shift", "f", "e", 6))
        self.assertEqual(images.change_by(image, other, making), (tuple("abcdef"), (
            ("rawb", ()), ("rawa", ()), ("rawb", ()), ("turna", ("a",)), ("turng", ("a",)), ("shiftf", ("f", "e")))))

    def test_least_making(self):
        for image, other in pairs():
            right = makings(image, other)
            if len(right) > 500:
                continue
            least = min(right, key=lambda making: (letters(making), sum(len(reads(way)) for way in making), making))
            self.assertEqual(images.least_making(image, other), least)

    def test_fits(self):
        for image, other in some_pairs(7):
            for making in makings(image, other)[:20]:
                for spares in (1, 2, 3):
                    self.assertEqual(images.fits(image, other, making, spares), fits(image, making, spares))

    def test_lean_making(self):
        for image, other in some_pairs(7):
            right = sorted(makings(image, other), key=lambda making: (letters(making), making))
            if len(right) > 500:
                continue
            told = []
            for spares in (1, 2, 3):
                lean = next(making for making in right if fits(image, making, spares))
                self.assertEqual(images.lean_making(image, other, spares), lean)
                told.append(letters(lean))
            self.assertEqual(images.letters_by_spares(image, other), tuple(told))

    def test_moved_on_fits_one_spare(self):
        blocks = "abcdef"
        text = "abcdefghijklmnopqr"
        image = tuple((block, text[3 * at:3 * at + 3]) for at, block in enumerate(blocks))
        for number in range(1, 8):
            moved = "z" * number + text[:-number]
            other = tuple((block, moved[3 * at:3 * at + 3]) for at, block in enumerate(blocks))
            self.assertEqual(images.moved_on(image, other), number)
            first = -(-number // 3)
            for at, block in enumerate(blocks):
                self.assertEqual(len(images.ways(image, other, block)) == 1, at < first)
            making = images.least_making(image, other)
            self.assertTrue(images.fits(image, other, making, 1))


def behind(one, other):
    made = {block: brute.term_of(one, block) for block in one[0]}
    found = []
    for name, blocks in other[1]:
        parts = tuple(made[block] for block in blocks)
        found.append(parts[0] if name == "copy" else (name, parts))
    return tuple(found)


def olds(term):
    return {term[1]} if term[0] == "old" else {cell for part in term[1] for cell in olds(part)}


class BehindTest(unittest.TestCase):
    def test_behind(self):
        changes = [change for change in brute.small_changes() if len(change[0]) == 2][::3]
        for one, other in itertools.product(changes, repeat=2):
            terms = behind(one, other)
            self.assertEqual(images.behind(one, other), terms)
            self.assertEqual(images.reads_behind(one, other), tuple(tuple(sorted(olds(term))) for term in terms))
            recipes = []
            for name, parts in terms:
                if name == "old":
                    recipes.append(("copy", (parts,)))
                elif all(part[0] == "old" for part in parts) and len(set(parts)) == len(parts):
                    recipes.append((name, tuple(part[1] for part in parts)))
            if len(recipes) == len(terms):
                at_once = images.made_at_once(one, other)
                self.assertEqual(at_once, (one[0], tuple(recipes)))
                self.assertEqual(tuple(brute.term_of(at_once, block) for block in one[0]), terms)
            else:
                self.assertEqual(refusal(images.made_at_once, one, other), CAN_NOT)

    def test_alike_reads_and_terms_within(self):
        one = (("a", "b"), (("copy", ("a",)), ("copy", ("a",))))
        self.assertEqual(refusal(images.made_at_once, one, (one[0], (("f", ("a", "b")), ("f", ())))), CAN_NOT)
        self.assertEqual(images.made_at_once(one, (one[0], (("f", ("b",)), ("f", ())))), (one[0], (("f", ("a",)), ("f", ()))))
        two = (("a", "b"), (("g", ()), ("copy", ("b",))))
        self.assertEqual(refusal(images.made_at_once, two, (one[0], (("f", ("a",)), ("copy", ("b",))))), CAN_NOT)
        self.assertEqual(images.made_at_once(two, (one[0], (("copy", ("a",)), ("copy", ("a",))))), (one[0], (("g", ()),) * 2))

    def test_unfit(self):
        other = (("a", "b", "c", "e"), CHANGE[1][:3] + (("f", ("e",)),))
        for function in (images.behind, images.reads_behind, images.made_at_once):
            self.assertEqual(refusal(function, CHANGE, other), UNFIT)
            self.assertEqual(refusal(function, (("a",), (("f", ()),)), CHANGE), UNFIT)


if __name__ == "__main__":
    unittest.main()
