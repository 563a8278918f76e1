"""Heights of buses, and flows of lines."""

from lampward.errors import Misfit, Uneven
from lampward.flow.solving import solve
from lampward.net.islands import island_at, islands
from lampward.num.fractions import fraction, minus, times, total


def heights(grid, feeds):
    """Return the height of each bus."""
    _check_feeds(grid, feeds)
    firsts = [island[0] for island in islands(grid)]
    rows = []
    for bus in range(grid.buses):
        # The balance of the first bus follows from those of the others in its island.
        if bus in firsts:
            rows.append(_row_of_first(grid, bus))
        else:
            rows.append(_row_of_balance(grid, bus, feeds[bus]))
    return solve(rows)


def flows(grid, feeds):
    """Return the flow of each line."""
    levels = heights(grid, feeds)
    return [_flow(line, levels) for line in grid.lines]


def factors(grid, bus):
    """Return the factor of each line for the bus."""
    feeds = [(0, 1)] * grid.buses
    first = island_at(grid, bus)[0]
    if first != bus:
        feeds[bus] = (1, 1)
        feeds[first] = (-1, 1)
    return flows(grid, feeds)


def _check_feeds(grid, feeds):
    if len(feeds) != grid.buses:
        raise Misfit()
    for island in islands(grid):
        if total([feeds[bus] for bus in island]) != (0, 1):
            raise Uneven(island[0])


def _row_of_first(grid, first):
    """Return the equation that tells that the height of this bus is 0."""
    eases = [0] * grid.buses
    eases[first] = 1
    return _row(eases, (0, 1))


def _row_of_balance(grid, bus, feed):
    """Return the equation that tells that the flows away from the bus add up to its feed."""
    eases = [0] * grid.buses
    for line in grid.lines:
        if bus == line.a or bus == line.b:
            far = line.a + line.b - bus
            eases[bus] += line.ease
            eases[far] -= line.ease
    return _row(eases, feed)


def _row(eases, right):
    return [fraction(ease, 1) for ease in eases] + [right]


def _flow(line, levels):
    return times(fraction(line.ease, 1), minus(levels[line.a], levels[line.b]))
