"""Even points."""

from lampward.box.balance import check_numbers, common_sum, need_of
from lampward.box.boxes import fits
from lampward.errors import Misfit
from lampward.net.islands import islands
from lampward.net.places import placed


def is_even(grid, sizes, outs):
    """Tell whether in each island the sizes and the outputs have the same sum."""
    check_numbers(grid, sizes, outs)
    return all([need_of(grid, sizes, outs, island) == 0 for island in islands(grid)])


def even_point(grid, box):
    """Return an even point of the box, or None if the box is empty."""
    if not fits(grid, box):
        raise Misfit()
    sizes = [0] * len(grid.loads)
    outs = [0] * len(grid.units)
    for island in islands(grid):
        loads = placed(grid.loads, island)
        units = placed(grid.units, island)
        wanted = common_sum([box.sizes[k] for k in loads], [box.outs[k] for k in units])
        if wanted is None:
            return None
        _fill(sizes, loads, box.sizes, wanted)
        _fill(outs, units, box.outs, wanted)
    return (sizes, outs)


def _fill(numbers, places, ranges, wanted):
    """Set the numbers at these places within their ranges, so that they have the wanted sum."""
    missing = wanted - sum([ranges[k][0] for k in places])
    for k in places:
        low, high = ranges[k]
        raised = min(missing, high - low)
        numbers[k] = low + raised
        missing -= raised
