"""Reads ahead of writes within moves that lie side by side: what HAZARDS come from."""


def hazards_in(moves, counts, first, last):
    """The HAZARDS that the moves from first on ahead of last have as a STRETCH; counts are those that count."""
    found = []
    written = {}
    for number in range(first, last):
        _, reads, cell = moves[number]
        if number in counts:
            for read in [read for read in reads if read not in written]:
                later = [other for other in range(number, last) if moves[other][2] == read]
                found.extend([(number, read, other) for other in later])
        written[cell] = True
    return found


def far_end(moves, counts, first, last):
    """The greatest end, up to last, to which the moves from first on have no HAZARD as a STRETCH; first without any."""
    read_first = {}
    written = {}
    for number in range(first, last):
        _, reads, cell = moves[number]
        if number in counts:
            for read in reads:
                if read not in written:
                    read_first[read] = True
        if cell in read_first:
            return number
        written[cell] = True
    return last


def far_ends_of(moves, counts):
    """For each spot but the last one the greatest end of a SPAN from there that holds."""
    return tuple([far_end(moves, counts, first, len(moves)) for first in range(len(moves))])
