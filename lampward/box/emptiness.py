"""Boxes without even points."""

from lampward.box.balance import common_sum
from lampward.box.boxes import fits
from lampward.errors import EmptyBox, Misfit
from lampward.net.islands import islands
from lampward.net.places import placed


def is_empty(grid, box):
    """Tell whether a box that fits the grid contains no even point."""
    return any([_is_uneven(grid, box, island) for island in islands(grid)])


def check_filled(grid, box):
    """Raise Misfit if the box does not fit the grid, then EmptyBox if it is empty."""
    if not fits(grid, box):
        raise Misfit()
    if is_empty(grid, box):
        raise EmptyBox()


def _is_uneven(grid, box, island):
    """Tell whether the sizes and the outputs of the island cannot have the same sum."""
    sizes = [box.sizes[k] for k in placed(grid.loads, island)]
    outs = [box.outs[k] for k in placed(grid.units, island)]
    return common_sum(sizes, outs) is None
