"""Cases: the loss of one part of a grid, or no loss."""

from lampward.errors import NoSuch
from lampward.net.grid import Grid

NO_LOSS = "-"


def cases(grid):
    """Return the names of the cases of the grid."""
    return [NO_LOSS] + [line.name for line in grid.lines] + [unit.name for unit in grid.units]


def grid_of(grid, case):
    """Return the grid of the case."""
    if case not in cases(grid):
        raise NoSuch(case)
    # No part is called as the case of no loss is, so that case takes nothing away.
    lines = [line for line in grid.lines if line.name != case]
    units = [unit for unit in grid.units if unit.name != case]
    return Grid(grid.buses, lines, units, grid.loads)
