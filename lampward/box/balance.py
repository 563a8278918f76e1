"""What makes a point even: as many numbers as the grid asks for, and equal sums in each island."""

from lampward.errors import Misfit, Uneven
from lampward.net.islands import islands
from lampward.net.places import placed


def check_numbers(grid, for_loads, for_units):
    """Raise Misfit if there is not one for each load and each unit."""
    if len(for_loads) != len(grid.loads) or len(for_units) != len(grid.units):
        raise Misfit()


def need_of(grid, sizes, outs, island):
    """Return by how much the sizes in the island are more than the outputs."""
    taken = sum([sizes[k] for k in placed(grid.loads, island)])
    return taken - sum([outs[k] for k in placed(grid.units, island)])


def check_even(grid, sizes, outs):
    """Raise Misfit if the point has too many or too few numbers, then Uneven if it is not even."""
    check_numbers(grid, sizes, outs)
    for island in islands(grid):
        if need_of(grid, sizes, outs, island) != 0:
            raise Uneven(island[0])


def common_sum(sizes, outs):
    """Return the least sum that numbers within both lists of ranges can have, or None if there is none."""
    least = max(sum([low for low, _ in sizes]), sum([low for low, _ in outs]))
    most = min(sum([high for _, high in sizes]), sum([high for _, high in outs]))
    if least > most:
        return None
    return least
