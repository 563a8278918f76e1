"""The errors of Lampward.

None of them derives from another one, except all from LampwardError, so that
a caller who catches one kind never catches another.
"""


class LampwardError(ValueError):
    """The base class of all errors."""


class ZeroBottom(LampwardError):
    """A denominator or a divisor is 0."""


class BadGrid(LampwardError):
    """A part of a grid, or its number of buses, breaks a rule of grids."""

    def __init__(self, kind, number):
        self.kind = kind
        self.number = number


class NoSuch(LampwardError):
    """There is no case or part of this name."""

    def __init__(self, name):
        self.name = name


class Uneven(LampwardError):
    """In the island that begins with this bus, power is left over or missing."""

    def __init__(self, bus):
        self.bus = bus


class BadBox(LampwardError):
    """The range with this number breaks the rule of ranges."""

    def __init__(self, number):
        self.number = number


class Misfit(LampwardError):
    """Lists do not have the lengths that belong together, or a box does not fit."""


class EmptyBox(LampwardError):
    """A box contains no even point."""


class NotGranted(LampwardError):
    """A box is not granted."""


class Outside(LampwardError):
    """A point does not lie in the box."""


class NoPoint(LampwardError):
    """The desk has no present point."""


class NothingToUndo(LampwardError):
    """No deed stands."""


class BadText(LampwardError):
    """A text cannot be read; the field tells its first bad line."""

    def __init__(self, line):
        self.line = line
