"""Boxes as texts."""

from lampward.box.boxes import Box, fits
from lampward.box.widest import widest
from lampward.errors import BadText, Misfit
from lampward.text.reading import read_number


def write_box(grid, box):
    """Return the text of a box of the grid."""
    if not fits(grid, box):
        raise Misfit()
    rows = list(zip(_heads(grid), box.sizes + box.outs))
    return "".join([f"{head}{low}..{high}\n" for head, (low, high) in rows])


def read_box(grid, text):
    """Return the box of the grid of which this is the text."""
    *lines, rest = text.split("\n")
    bounds = widest(grid)
    ranges = []
    for head, (least, most) in zip(_heads(grid), bounds.sizes + bounds.outs):
        number = len(ranges)
        if number == len(lines):
            raise BadText(number + 1)
        found = _read_range(lines[number], head, least, most)
        if found is None:
            raise BadText(number + 1)
        ranges.append(found)
    if len(lines) > len(ranges) or rest != "":
        raise BadText(len(ranges) + 1)
    many = len(grid.loads)
    return Box(ranges[:many], ranges[many:])


def _heads(grid):
    """Return what the line of each load and of each unit begins with, before its range."""
    return [f"load {load.name} " for load in grid.loads] + [f"unit {unit.name} " for unit in grid.units]


def _read_range(line, head, least, most):
    """Return the range in a line that has this head, or None if the line cannot stand there."""
    if not line.startswith(head):
        return None
    start, _, end = line.removeprefix(head).partition("..")
    low = read_number(start, most)
    high = read_number(end, most)
    if low is None or high is None or low < least or low > high:
        return None
    return (low, high)
