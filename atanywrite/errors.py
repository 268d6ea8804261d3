"""The errors of the package: one class for each kind of refusal."""


class RowError(ValueError):
    """Above all errors that the package raises."""


class BadLine(RowError):
    """The line with this number is no request."""

    def __init__(self, number):
        self.number = number


class BadText(RowError):
    """The piece with this number is not written as it ought to be."""

    def __init__(self, piece):
        self.piece = piece


class CanNot(RowError):
    """What was asked for can not be done."""

    def __init__(self):
        pass


class Known(RowError):
    """This name is taken already."""

    def __init__(self, name):
        self.name = name


class NoBlock(RowError):
    """This string names no block."""

    def __init__(self, name):
        self.name = name


class NoCell(RowError):
    """This string names no cell."""

    def __init__(self, name):
        self.name = name


class NoClass(RowError):
    """This string names no class of devices."""

    def __init__(self, name):
        self.name = name


class NoDevice(RowError):
    """This string names no device."""

    def __init__(self, name):
        self.name = name


class NoNumber(RowError):
    """Nothing of what was asked for has this number."""

    def __init__(self, number):
        self.number = number


class NoRow(RowError):
    """No row goes by this name."""

    def __init__(self, name):
        self.name = name


class NothingDone(RowError):
    """There is no deed to take back."""

    def __init__(self):
        pass


class Unfit(RowError):
    """What was handed in, or would be returned, is not of the kind that it ought to be."""

    def __init__(self):
        pass
