"""Grids: buses, lines between buses, units and loads at buses."""

from lampward.errors import BadGrid

MOST_BUSES = 9
MOST_LINES = 12
MOST_UNITS = 6
MOST_LOADS = 6
LONGEST_NAME = 6
LETTERS = "abcdefghijklmnopqrstuvwxyz"
DIGITS = "0123456789"


def is_name(text):
    """Tell whether the text is a name."""
    if len(text) < 1 or len(text) > LONGEST_NAME or text[0] not in LETTERS:
        return False
    return all([sign in LETTERS or sign in DIGITS for sign in text])


class Line:
    """A line between the buses a and b."""

    def __init__(self, name, a, b, ease, limit):
        self.name = name
        self.a = a
        self.b = b
        self.ease = ease
        self.limit = limit


class Unit:
    """A unit that feeds power in at a bus."""

    def __init__(self, name, bus, low, high, share):
        self.name = name
        self.bus = bus
        self.low = low
        self.high = high
        self.share = share


class Load:
    """A load that takes power out at a bus."""

    def __init__(self, name, bus):
        self.name = name
        self.bus = bus


class Grid:
    """A grid that keeps all rules, with lines, units and loads of its own."""

    def __init__(self, buses, lines, units, loads):
        _check_grid(buses, lines, units, loads)
        self.buses = buses
        self.lines = [Line(line.name, line.a, line.b, line.ease, line.limit) for line in lines]
        self.units = [Unit(unit.name, unit.bus, unit.low, unit.high, unit.share) for unit in units]
        self.loads = [Load(load.name, load.bus) for load in loads]


def _check_grid(buses, lines, units, loads):
    """Raise BadGrid for the first one that is wrong."""
    if not _is_within(buses, 1, MOST_BUSES):
        raise BadGrid("bus", 0)
    taken = {}
    _check_kind("line", lines, MOST_LINES, taken, [_keeps_line_rules(line, buses) for line in lines])
    _check_kind("unit", units, MOST_UNITS, taken, [_keeps_unit_rules(unit, buses) for unit in units])
    _check_kind("load", loads, MOST_LOADS, taken, [_is_bus(load.bus, buses) for load in loads])


def _check_kind(kind, parts, most, taken, sound):
    """Check the parts of one kind, and add their names to those that are taken."""
    for number, part in enumerate(parts):
        if number >= most or not sound[number] or not is_name(part.name) or part.name in taken:
            raise BadGrid(kind, number)
        taken[part.name] = True


def _keeps_line_rules(line, buses):
    if not _is_bus(line.a, buses) or not _is_bus(line.b, buses) or line.a == line.b:
        return False
    return _is_within(line.ease, 1, 9) and _is_within(line.limit, 0, 9999)


def _keeps_unit_rules(unit, buses):
    if not _is_bus(unit.bus, buses) or not _is_within(unit.share, 0, 9):
        return False
    return 0 <= unit.low and unit.low <= unit.high and unit.high <= 999


def _is_bus(bus, buses):
    return _is_within(bus, 0, buses - 1)


def _is_within(number, low, high):
    return low <= number and number <= high
