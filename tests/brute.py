"""What the document says, worked out as its words go, without any of the package; and all small ROWS and CHANGES."""

import itertools


def marked(row):
    return sorted({0, *row[3], len(row[2])})


def mark_below(row, number):
    return max(spot for spot in marked(row) if spot <= number)


def do(held, move):
    name, reads, cell = move
    parts = tuple(held[read] for read in reads)
    return {**held, cell: parts[0] if name == "copy" else (name, parts)}


def run(row, play):
    """The moves begun, and what the cells hold at the beginning and behind each of them."""
    cells, _, moves, _ = row
    along = [{cell: ("old", cell) for cell in cells}]
    begun = []
    spot = 0
    for place, number in enumerate(play):
        for done in range(spot, number):
            begun.append(done)
            along.append(do(along[-1], moves[done]))
        begun.append(number)
        along.append({**along[-1], moves[number][2]: ("spoilt", place)})
        spot = mark_below(row, number)
    for done in range(spot, len(moves)):
        begun.append(done)
        along.append(do(along[-1], moves[done]))
    return begun, along


def lost_at(row, play):
    """At which of the moves begun, by their places, power is lost."""
    found = []
    spot = at = 0
    for number in play:
        at += number - spot
        found.append(at)
        at += 1
        spot = mark_below(row, number)
    return found


def contents(row, held):
    return tuple(held[cell] for cell in row[0])


def end(row, play):
    held = run(row, play)[1][-1]
    return tuple(held[cell] for cell in row[1])


def is_play(row, numbers):
    spot = 0
    for number in numbers:
        if not spot <= number < len(row[2]):
            return False
        spot = mark_below(row, number)
    return True


def plays(row, losses):
    """All PLAYS of at most so many losses, the shorter ones first."""
    for many in range(losses + 1):
        for numbers in itertools.product(range(len(row[2])), repeat=many):
            if is_play(row, numbers):
                yield numbers


def short_plays(row, losses):
    return [play for play in plays(row, losses) if len(run(row, play)[0]) <= 20]


def writes_between(row, cell, first, last):
    return [number for number in range(first, last) if row[2][number][2] == cell]


def writes_for(row, number):
    cell = row[2][number][2]
    return [later for later in range(number + 1, len(row[2]))
            if cell in row[2][later][1] and not writes_between(row, cell, number + 1, later)]


def held_at_end(row, number):
    cell = row[2][number][2]
    return cell in row[1] and not writes_between(row, cell, number + 1, len(row[2]))


def whys(row, number):
    """All WHYS of the move."""
    found = [(number,)] if held_at_end(row, number) else []
    for later in writes_for(row, number):
        found += [(number, *path) for path in whys(row, later)]
    return found


def counting(row):
    return tuple(number for number in range(len(row[2])) if whys(row, number))


def hazards_within(row, first, last):
    """The HAZARDS of the moves from first on ahead of last as a STRETCH."""
    found = []
    for number in range(first, last):
        for cell in row[2][number][1]:
            if number in counting(row) and not writes_between(row, cell, first, number):
                found += [(number, cell, later) for later in writes_between(row, cell, number, last)]
    return sorted(found)


def hazards(row):
    spots = marked(row)
    return tuple(sorted(hazard for first, last in zip(spots, spots[1:])
                        for hazard in hazards_within(row, first, last)))


def keeps(row):
    """Whether no PLAY of one loss has another END; by two losses nothing more comes."""
    return all(end(row, play) == end(row, ()) for play in plays(row, 1))


def subsets(things):
    for many in range(len(things) + 1):
        yield from itertools.combinations(things, many)


def inner_spots(row):
    return range(1, len(row[2]))


def markings(row):
    return sorted(marks for marks in subsets(inner_spots(row)) if keeps(row[:3] + (marks,)))


def moves_of(cells, names, most_reads):
    """All MOVES of these cells by these functions."""
    found = []
    for name in names:
        for many in ([1] if name == "copy" else range(most_reads + 1)):
            for reads in itertools.permutations(cells, many):
                found += [(name, reads, cell) for cell in cells]
    return found


def rows_of(cells, moves, most, wanteds):
    """All ROWS of at most so many of these moves, with all marks that there can be."""
    for many in range(most + 1):
        for row in itertools.product(moves, repeat=many):
            for wanted in wanteds:
                for marks in subsets(range(1, many)):
                    yield (cells, wanted, row, marks)


FEW_MOVES = (
    ("f", ("a",), "a"), ("f", ("a",), "b"), ("g", (), "a"), ("g", ("b", "a"), "b"), ("copy", ("a",), "b"),
    ("copy", ("b",), "a"), ("copy", ("a",), "a"),
)


def small_rows():
    """Many small ROWS: of one cell, of two cells, of three with longer runs."""
    yield from rows_of(("a",), moves_of(("a",), ("f", "copy"), 1), 4, [("a",)])
    two = moves_of(("a", "b"), ("f", "copy"), 2)
    yield from rows_of(("a", "b"), two, 2, [("a",), ("a", "b")])
    yield from rows_of(("a", "b"), FEW_MOVES, 3, [("a",), ("b",), ("a", "b")])


def long_moves():
    """Rows of five moves of three cells: each move writes a cell and reads another one, or none."""
    parts = [("f", ("b",), "a"), ("g", ("a",), "c"), ("copy", ("c",), "b"), ("h", (), "a"), ("k", ("a", "c"), "c")]
    return itertools.product(parts, repeat=5)


def long_rows(step):
    """Some of these ROWS, one of so many, with some marks each."""
    marks = list(subsets(range(1, 5)))
    for at, moves in enumerate(long_moves()):
        if at % step == 0:
            yield (("a", "b", "c"), ("a", "c") if at % 2 else ("b",), moves, marks[at // step % len(marks)])


def recipes_of(blocks):
    found = [("copy", (block,)) for block in blocks]
    for name in "fg":
        for many in range(len(blocks) + 1):
            found += [(name, reads) for reads in itertools.combinations(blocks, many)]
    return found


def small_changes():
    """All CHANGES of one and two blocks by copy, f and g, and some of three."""
    for many in (1, 2):
        blocks = ("a", "b")[:many]
        for recipes in itertools.product(recipes_of(blocks), repeat=many):
            yield (blocks, recipes)
    blocks = ("a", "b", "c")
    for at, recipes in enumerate(itertools.product(recipes_of(blocks), repeat=3)):
        if at % 23 == 0:
            yield (blocks, recipes)


def term_of(change, block):
    name, reads = change[1][change[0].index(block)]
    olds = tuple(("old", read) for read in reads)
    return olds[0] if name == "copy" else (name, olds)


def held(change, made, block):
    """The TERMS that are held where these are made and the block is next."""
    found = {term_of(change, block)}
    for other, (name, reads) in zip(*change):
        if other in made:
            found.add(term_of(change, other))
        else:
            found.update(("old", read) for read in reads)
    return found


def need_of(change, order):
    """The least SPARES with which this ORDER is right."""
    most = max(len(held(change, order[:at], block)) for at, block in enumerate(order))
    return max(1, most - len(change[0]))


def orders_with(change, spares):
    return [order for order in itertools.permutations(change[0]) if need_of(change, order) <= spares]


def sets_that_come(change, spares):
    found = {()}
    todo = [()]
    while todo:
        made = todo.pop()
        for block in change[0]:
            if block not in made and len(held(change, made, block)) <= len(change[0]) + spares:
                more = tuple(sorted([*made, block]))
                if more not in found:
                    found.add(more)
                    todo.append(more)
    return tuple(sorted(found))
