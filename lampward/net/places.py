"""Where parts of a grid stand: the islands of loads, units and buses."""

from lampward.net.islands import islands


def placed(parts, island):
    """Return the indexes of the loads or units that stand in the island."""
    return [k for k, part in enumerate(parts) if part.bus in island]


def all_placed(parts, grid):
    """Return, for each island of the grid, the indexes of the loads or units that stand in it."""
    return [placed(parts, island) for island in islands(grid)]


def island_numbers(grid):
    """Return, for each bus, the index of its island."""
    numbers = [0] * grid.buses
    for number, island in enumerate(islands(grid)):
        for bus in island:
            numbers[bus] = number
    return numbers


def weight_of(grid, island):
    """Return the sum of the shares of the units in the island."""
    return sum([grid.units[k].share for k in placed(grid.units, island)])
