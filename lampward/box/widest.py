"""The widest box of a grid."""

from lampward.box.boxes import Box

GREATEST = 999


def widest(grid):
    """Return the box that all boxes that fit the grid lie within."""
    return Box([(0, GREATEST)] * len(grid.loads), [(unit.low, unit.high) for unit in grid.units])
