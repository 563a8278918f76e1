"""Rebuilding a desk from its journal."""

from lampward.box.boxes import Box
from lampward.desk.desk import Desk
from lampward.desk.entries import read_point, read_ranges
from lampward.errors import BadText, LampwardError


def rebuild(grid, text):
    """Return a desk over the grid at which the deeds of the journal are done."""
    desk = Desk(grid)
    *rows, rest = text.split("\n")
    for number, row in enumerate(rows, start=1):
        if not _is_done(desk, row):
            raise BadText(number)
    if rest != "":
        raise BadText(len(rows) + 1)
    return desk


def _is_done(desk, row):
    """Do the deed of a row of the journal, and tell whether it could be done."""
    deed, *words = row.split(" ")
    try:
        if deed == "see":
            return _is_seen(desk, words)
        if deed == "ask":
            return _is_granted(desk, words)
        return len(words) == 1 and _is_part_changed(desk, deed, words[0])
    except LampwardError:
        return False


def _is_seen(desk, words):
    point = read_point(words)
    if point is None:
        return False
    sizes, outs = point
    desk.see(sizes, outs)
    return True


def _is_granted(desk, words):
    ranges = read_ranges(words)
    if ranges is None:
        return False
    sizes, outs = ranges
    return desk.ask(Box(sizes, outs)) is None


def _is_part_changed(desk, deed, name):
    if deed == "lose":
        desk.lose(name)
    elif deed == "mend":
        desk.mend(name)
    else:
        return False
    return True
