"""IMAGES: written blocks, and how those of one are made from those of another one."""

from atanywrite.checks import need_blocks
from atanywrite.errors import CanNot, Unfit
from atanywrite.rooms import Room, can_come, recipe_term
from atanywrite.shapes import COPY, LETTERS, ascends, frozen, is_name, is_number
from atanywrite.terms import term_cells

RAW = "raw"
SHIFT = "shift"
TURN = "turn"
MOST_SPARES = 3


def is_image(thing):
    """Whether thing is an IMAGE."""
    if not isinstance(thing, tuple) or thing == () or not all([_is_written(pair) for pair in thing]):
        return False
    if not ascends([block for block, text in thing]):
        return False
    return len(set([len(text) for block, text in thing])) == 1


def _is_written(thing):
    """Whether thing is a pair of a block and its text."""
    if not isinstance(thing, tuple) or len(thing) != 2:
        return False
    return is_name(thing[0]) and _is_text(thing[1])


def _is_text(thing):
    return isinstance(thing, str) and thing.isascii() and thing.isalpha() and thing.islower()


def _texts(image):
    return {block: text for block, text in image}


def _blocks(image):
    return tuple([block for block, text in image])


def _length(image):
    """How long the texts are."""
    return len(image[0][1])


def text_of(image, block):
    """The text of this block."""
    need_blocks(_blocks(image), [block])
    return _texts(image)[block]


def _need_alike(image, other):
    if len(image) != len(other) or _length(image) != _length(other):
        raise Unfit()
    for pair, another in zip(image, other):
        if pair[0] != another[0]:
            raise Unfit()


def apart(image, other):
    """The set of the blocks of which the texts are unlike."""
    _need_alike(image, other)
    return tuple([block for (block, text), (_, new) in zip(image, other) if text != new])


def moved_on(image, other):
    """The least number by which other is image moved on; None if there is none."""
    _need_alike(image, other)
    old = "".join([text for block, text in image])
    new = "".join([text for block, text in other])
    for number in range(len(old)):
        if new[number:] == old[:len(old) - number]:
            return number
    return None


def ways(image, other, block):
    """The ascending list of all WAYS to make this block of other from image."""
    text = _text_to_make(image, other, block)
    return _ways_to(_texts(image), text)


def _ways_to(texts, text):
    """The ascending list of all WAYS to make this text from blocks with these texts."""
    found = [(COPY, near) for near in list(texts) if texts[near] == text]
    found.append((RAW, text))
    shifts = []
    for number in range(1, len(text)):
        head = text[:len(text) - number]
        nears = [near for near in list(texts) if texts[near].endswith(head)]
        if nears:
            tail = text[len(text) - number:]
            fars = [far for far in list(texts) if texts[far].startswith(tail)]
            shifts.extend([(SHIFT, near, far, number) for near in nears for far in fars])
    return found + sorted(shifts)


def _text_to_make(image, other, block):
    need_blocks(_texts(image), [block])
    _need_alike(image, other)
    return _texts(other)[block]


def is_way(image, other, block, thing):
    """Whether thing is a WAY to make this block of other from image."""
    text = _text_to_make(image, other, block)
    return _is_way_to(_texts(image), text, thing)


def _is_way_to(texts, text, thing):
    """Whether thing is a WAY to make this text from blocks with these texts."""
    if not isinstance(thing, tuple) or not _is_kind_of_way(thing):
        return False
    if thing[0] == RAW:
        return thing[1] == text
    if thing[0] == COPY:
        return thing[1] in texts and texts[thing[1]] == text
    _, near, far, number = thing
    if near not in texts or far not in texts or not 1 <= number < len(text):
        return False
    return texts[near][number:] + texts[far][:number] == text


def _is_kind_of_way(thing):
    """Whether the tuple has the parts that a WAY has, whatever they tell."""
    if len(thing) == 2:
        return thing[0] in (COPY, RAW) and isinstance(thing[1], str)
    if len(thing) != 4 or thing[0] != SHIFT:
        return False
    return isinstance(thing[1], str) and isinstance(thing[2], str) and is_number(thing[3])


def _reads(way):
    """The tuple of the blocks that the WAY reads."""
    if way[0] == RAW:
        return ()
    return (way[1],) if way[0] == COPY or way[1] == way[2] else (way[1], way[2])


def text_by(image, way):
    """The text that the WAY makes."""
    texts = _texts(image)
    need_blocks(texts, _reads(way))
    if way[0] == RAW:
        return way[1]
    if way[0] == COPY:
        return texts[way[1]]
    _, near, far, number = way
    if not 1 <= number < _length(image):
        raise Unfit()
    return texts[near][number:] + texts[far][:number]


def is_making(image, other, thing):
    """Whether thing is a MAKING of other from image."""
    _need_alike(image, other)
    return _is_making_of(_texts(image), other, thing)


def _is_making_of(texts, other, thing):
    """Whether thing is a MAKING of other from blocks with these texts."""
    if not isinstance(thing, tuple) or len(thing) != len(other):
        return False
    return all([_is_way_to(texts, text, way) for (_, text), way in zip(other, thing)])


def _need_blocks_of(texts, making):
    for way in making:
        # What is no WAY at all names no blocks.
        if isinstance(way, tuple) and _is_kind_of_way(way):
            need_blocks(texts, _reads(way))


def image_by(image, making):
    """The IMAGE with the blocks of image that these WAYS make."""
    told = frozen(making)
    _need_blocks_of(_texts(image), told)
    if len(told) != len(image):
        raise Unfit()
    made = tuple([(block, text_by(image, way)) for block, way in zip(_blocks(image), told)])
    if not is_image(made):
        raise Unfit()
    return made


def letters(making):
    """How many letters of raw texts have to be sent."""
    return sum([len(text) for text in _raw_texts(making)])


def _raw_texts(making):
    """The ascending list of the unlike raw texts."""
    return sorted(set([way[1] for way in making if way[0] == RAW]))


def least_making(image, other):
    """Of the MAKINGS with the fewest letters those whose WAYS read the fewest blocks, of these the least."""
    _need_alike(image, other)
    texts = _texts(image)
    return tuple([_least_way(texts, text) for block, text in other])


def _least_way(texts, text):
    # A text that has another WAY is raw nowhere: all blocks with this text have that WAY, too.
    found = _ways_to(texts, text)
    sent_not = [(len(_reads(way)), way) for way in found if way[0] != RAW]
    return min(sent_not)[1] if sent_not else found[0]


def change_by(image, other, making):
    """The CHANGE by this MAKING."""
    told = frozen(making)
    texts = _texts(image)
    _need_blocks_of(texts, told)
    _need_alike(image, other)
    if not _is_making_of(texts, other, told):
        raise Unfit()
    return _change_by(tuple(texts), told)


def _change_by(blocks, making):
    raw = _raw_texts(making)
    return (blocks, tuple([_recipe_by(way, raw) for way in making]))


def _recipe_by(way, raw):
    """The recipe for a WAY, raw being the unlike raw texts."""
    reads = _reads(way)
    if way[0] == COPY:
        return (COPY, reads)
    if way[0] == RAW:
        return (RAW + LETTERS[raw.index(way[1])], reads)
    return ((TURN if len(reads) == 1 else SHIFT) + LETTERS[way[3] - 1], reads)


def fits(image, other, making, spares):
    """Whether some ORDER of the CHANGE by this MAKING is right with so many SPARES."""
    return can_come(Room(change_by(image, other, making)), 0, spares)


def lean_making(image, other, spares):
    """Of the MAKINGS that fit those with the fewest letters, of these the least."""
    _need_alike(image, other)
    choices = _choices(image, other)
    for many in range(len(choices) + 1):
        making = _lean_with(_blocks(image), choices, spares, many)
        if making is not None:
            return making
    return None


def _choices(image, other):
    """For each block of other its WAYS."""
    texts = _texts(image)
    return [_ways_to(texts, text) for block, text in other]


def _lean_with(blocks, choices, spares, many):
    """The least MAKING that fits and sends so many unlike raw texts; None if there is none."""
    # The WAYS so far with the texts sent so far; the last one is gone on with, so the least come last.
    todo = [((), ())]
    while todo:
        making, sent = todo.pop()
        if len(making) == len(choices):
            if len(sent) == many and can_come(Room(_change_by(blocks, making)), 0, spares):
                return making
            continue
        for way in choices[len(making)][::-1]:
            then = (*sent, way[1]) if way[0] == RAW and way[1] not in sent else sent
            if len(then) <= many:
                todo.append(((*making, way), then))
    return None


def letters_by_spares(image, other):
    """The tuple of the letters of the lean MAKING with 1, 2 and 3 spares."""
    _need_alike(image, other)
    choices = _choices(image, other)
    found = []
    many = 0
    # With fewer spares no fewer are sent.
    for spares in range(MOST_SPARES, 0, -1):
        while _lean_with(_blocks(image), choices, spares, many) is None:
            many += 1
        found.append(many * _length(image))
    return tuple(found[::-1])


def behind(one, other):
    """CONTENTS: for each block the TERM of what it holds if one is made, and then other from that."""
    if frozen(one[0]) != frozen(other[0]):
        raise Unfit()
    made = {block: recipe_term(recipe) for block, recipe in zip(one[0], frozen(one[1]))}
    return tuple([_term_over(made, recipe) for recipe in other[1]])


def _term_over(made, recipe):
    """The TERM that the recipe makes where the blocks hold these."""
    name, reads = recipe
    terms = tuple([made[block] for block in reads])
    return terms[0] if name == COPY else (name, terms)


def reads_behind(one, other):
    """The tuple of the sets of the old blocks in what the blocks hold then."""
    return tuple([term_cells(term) for term in behind(one, other)])


def made_at_once(one, other):
    """The CHANGE that makes at once what comes if one is made, and then other from that."""
    return (frozen(one[0]), tuple([_recipe_of_term(term) for term in behind(one, other)]))


def _recipe_of_term(term):
    """The recipe that makes this TERM of the old blocks."""
    if term[0] == "old":
        return (COPY, (term[1],))
    name, parts = term
    if not all([part[0] == "old" for part in parts]) or len(set(parts)) != len(parts):
        raise CanNot()
    return (name, tuple([part[1] for part in parts]))
