"""Checks of arguments that raise the errors which the document states for them."""

from atanywrite.errors import Known, NoCell, NoNumber


def need_cell(cells, name):
    if name not in cells:
        raise NoCell(name)


def need_new(names, name):
    if name in names:
        raise Known(name)


def need_number(number, low, high):
    """Numbers from low to high are right, these two, too."""
    if not low <= number <= high:
        raise NoNumber(number)
