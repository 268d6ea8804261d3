"""Names, numbers and sets, and arguments taken with lists for tuples."""

LETTERS = "abcdefghijklmnopqrstuvwxyz"
LONGEST_NAME = 8
COPY = "copy"
# A TERM that begins with one of these is no function's.
NO_FUNCTIONS = ("old", "spoilt")
# Arguments but TERMS are less deep.
DEEPEST_CALL = 10


def frozen(value):
    """The value with tuples in the place of lists, at any depth."""
    return value if _is_frozen(value, DEEPEST_CALL) else _made_frozen(value)


def _is_frozen(value, depth):
    """Whether nothing in the value is a list, as far as calls so deep can tell."""
    if not isinstance(value, tuple):
        return not isinstance(value, list)
    for part in value:
        if isinstance(part, (tuple, list)) and (depth == 0 or not _is_frozen(part, depth - 1)):
            return False
    return True


def _made_frozen(value):
    # TERMS may be deeper than calls may be nested, so what is left to do is kept in a list.
    todo = [(value, False)]
    made = []
    while todo:
        part, has_parts_made = todo.pop()
        if not isinstance(part, (list, tuple)):
            made.append(part)
        elif has_parts_made:
            ahead = len(made) - len(part)
            whole = tuple(made[ahead:])
            del made[ahead:]
            made.append(whole)
        else:
            todo.append((part, True))
            todo.extend([(inner, False) for inner in part[::-1]])
    return made[0]


def as_set(values):
    """The ascending tuple, without duplicates, of these names or numbers."""
    return tuple(sorted(set(values)))


def is_number(thing):
    return isinstance(thing, int) and not isinstance(thing, bool)


def is_name(thing):
    if not isinstance(thing, str) or len(thing) > LONGEST_NAME:
        return False
    return thing.isascii() and thing.isalpha() and thing.islower()


def is_function(thing):
    """Whether thing is a NAME that a function may have."""
    return is_name(thing) and thing not in NO_FUNCTIONS


def ascends(values):
    """Whether these values of one kind ascend without duplicates."""
    return all([low < high for low, high in zip(values, values[1:])])


def is_name_set(thing):
    """Whether thing is a set of one or more NAMEs."""
    if not isinstance(thing, tuple) or thing == ():
        return False
    return all([is_name(name) for name in thing]) and ascends(thing)


def is_number_set(thing, low, high=None):
    """Whether thing is a set, maybe (), of numbers from low on, up to high unless that is None."""
    if not isinstance(thing, tuple) or not all([is_number(number) for number in thing]):
        return False
    return ascends(thing) and all([low <= number and (high is None or number <= high) for number in thing])


def is_set_of(names, thing):
    """Whether thing is a set, maybe (), of some of these names."""
    if not isinstance(thing, tuple) or not all([isinstance(name, str) and name in names for name in thing]):
        return False
    return ascends(thing)


def is_call(name, reads, known):
    """Whether a function called name may read these; known has what can be read as its keys."""
    if not is_function(name) or not isinstance(reads, tuple):
        return False
    # What is no string may be no key of a dict either.
    if not all([isinstance(cell, str) and cell in known for cell in reads]):
        return False
    return len(set(reads)) == len(reads) and (name != COPY or len(reads) == 1)


def is_same(thing, value):
    """Whether thing is this value of numbers, strings and tuples: True is no 1 in it, a list no tuple."""
    if isinstance(value, tuple):
        if not isinstance(thing, tuple) or len(thing) != len(value):
            return False
        return all([is_same(part, other) for part, other in zip(thing, value)])
    if isinstance(value, str):
        return isinstance(thing, str) and thing == value
    return is_number(thing) and thing == value
