"""Checks of arguments that raise the errors which the document states for them."""

from atanywrite.errors import Known, NoBlock, NoCell, NoClass, NoDevice, NoNumber


def need_cell(cells, name):
    if name not in cells:
        raise NoCell(name)


def need_blocks(blocks, names):
    """Each of these names has to be one of the blocks."""
    for name in names:
        if name not in blocks:
            raise NoBlock(name)


def need_classes(classes, names):
    """Each of these names has to be one of the classes."""
    for name in names:
        if name not in classes:
            raise NoClass(name)


def need_devices(devices, names):
    """Each of these names has to be one of the devices."""
    for name in names:
        if name not in devices:
            raise NoDevice(name)


def need_new(names, name):
    if name in names:
        raise Known(name)


def need_number(number, low, high):
    """Numbers from low to high are right, these two, too."""
    if not low <= number <= high:
        raise NoNumber(number)


def need_spares(spares):
    if spares < 1:
        raise NoNumber(spares)
