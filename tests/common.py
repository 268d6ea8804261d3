"""What several test files use: sample ROWS, lists for tuples, and errors told as tuples."""

from atanywrite.errors import RowError

ROW = (
    ("a", "b", "s"),
    ("a", "b"),
    (("copy", ("a",), "s"), ("f", ("a", "b"), "a"), ("g", ("s",), "b")),
    (1,),
)
STILL = (("a", "b"), ("b",), (), ())
SINGLE = (("a",), ("a",), (("f", (), "a"),), ())
FULL = (
    ("a", "b", "c", "d"),
    ("d",),
    (
        ("f", ("a",), "b"),
        ("copy", ("b",), "c"),
        ("g", (), "a"),
        ("f", ("c", "a", "b"), "c"),
        ("mix", ("c", "b"), "b"),
    ),
    (1, 2, 3, 4),
)
CHANGE = (
    ("a", "b", "c", "d"),
    (("f", ("b",)), ("g", ("a",)), ("h", ("a", "b", "c")), ("copy", ("d",))),
)

# Values of every kind that are no ROW, MOVE, CHANGE or ORDER.
STRANGE = [
    0, 1, -1, 10 ** 30, True, False, None, "", "a", "abc", "copy a to s", (), [], ((),), [[]], ("",), (None,),
    ((), (), (), ()), ((), ()), ((), (), ()), [[], [], [], []], (1, 2, 3), (1, 2, 3, 4), ("a", "b", "c", "d"),
    (None, None), (True, True, True), ("f", "a", "a"), "f" * 100, ("f",) * 100, (0,) * 1000,
]


def nested(depth, worth=()):
    """A tuple in a tuple and so on, the innermost one worth."""
    for _ in range(depth):
        worth = (worth,)
    return worth


def listed(value):
    """The value with lists in the place of tuples, at any depth."""
    if isinstance(value, (list, tuple)):
        return [listed(part) for part in value]
    return value


def has_list(value):
    if isinstance(value, tuple):
        return any(has_list(part) for part in value)
    return isinstance(value, list)


def list_at_each_depth(value):
    """The value with one of its tuples as a list, for each of its tuples."""
    found = []
    if isinstance(value, tuple):
        found.append(list(value))
        for at, part in enumerate(value):
            found += [value[:at] + (other,) + value[at + 1:] for other in list_at_each_depth(part)]
    return found


def with_strange_parts(value):
    """The value with one of its parts replaced by something of another kind, for each part."""
    found = []
    if isinstance(value, tuple):
        for at, part in enumerate(value):
            for other in [None, True, [], "A", nested(20)] + with_strange_parts(part):
                found.append(value[:at] + (other,) + value[at + 1:])
    return found


def refusal(function, *values, **named):
    """The name of the RowError that the call raises, and its attributes; None without one."""
    try:
        function(*values, **named)
    except RowError as error:
        return (error.__class__.__name__, vars(error))
    return None


def no_number(number):
    return ("NoNumber", {"number": number})


def no_cell(name):
    return ("NoCell", {"name": name})


def no_class(name):
    return ("NoClass", {"name": name})


def no_device(name):
    return ("NoDevice", {"name": name})


def no_row(name):
    return ("NoRow", {"name": name})


def known(name):
    return ("Known", {"name": name})


def bad_text(piece):
    return ("BadText", {"piece": piece})


UNFIT = ("Unfit", {})
CAN_NOT = ("CanNot", {})
NOTHING_DONE = ("NothingDone", {})
