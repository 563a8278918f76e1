"""Heights of buses, and flows of lines."""

from lampward.errors import Misfit, Uneven
from lampward.flow.solving import solve_all
from lampward.net.islands import islands
from lampward.net.places import island_numbers
from lampward.num.fractions import fraction, minus, times, total


def heights(grid, feeds):
    """Return the height of each bus."""
    _check_feeds(grid, feeds)
    return _heights_of_all(grid, [feeds])[0]


def flows(grid, feeds):
    """Return the flow of each line."""
    return _flows_at(grid, heights(grid, feeds))


def factors(grid, bus):
    """Return the factor of each line for the bus."""
    return _factors_for(grid, [bus])[0]


def all_factors(grid):
    """Return, for each bus, the list of the factors of all lines for it."""
    return _factors_for(grid, list(range(grid.buses)))


def _factors_for(grid, buses):
    """Return, for each of these buses, the list of the factors of all lines for it."""
    parts = islands(grid)
    numbers = island_numbers(grid)
    feeds = [_feeds_between(grid, bus, parts[numbers[bus]][0]) for bus in buses]
    return [_flows_at(grid, levels) for levels in _heights_of_all(grid, feeds)]


def _feeds_between(grid, bus, first):
    """Return the feeds if 1 is fed in at the bus and taken out at the first bus of its island."""
    feeds = [(0, 1)] * grid.buses
    if first != bus:
        feeds[bus] = (1, 1)
        feeds[first] = (-1, 1)
    return feeds


def _check_feeds(grid, feeds):
    if len(feeds) != grid.buses:
        raise Misfit()
    for island in islands(grid):
        if total([feeds[bus] for bus in island]) != (0, 1):
            raise Uneven(island[0])


def _heights_of_all(grid, all_feeds):
    """Return the list of heights for each of these lists of feeds, which are even."""
    firsts = [island[0] for island in islands(grid)]
    rows = []
    for bus in range(grid.buses):
        # The balance of the first bus follows from those of the others in its island.
        if bus in firsts:
            rows.append(_eases_of_first(grid, bus) + [(0, 1)] * len(all_feeds))
        else:
            rows.append(_eases_of_balance(grid, bus) + [feeds[bus] for feeds in all_feeds])
    solved = solve_all(rows)
    return [[values[k] for values in solved] for k in range(len(all_feeds))]


def _eases_of_first(grid, first):
    """Return the left side of the equation that tells that the height of this bus is 0."""
    eases = [0] * grid.buses
    eases[first] = 1
    return [fraction(ease, 1) for ease in eases]


def _eases_of_balance(grid, bus):
    """Return the left side of the equation that tells that the flows away from the bus add up to its feed."""
    eases = [0] * grid.buses
    for line in grid.lines:
        if bus == line.a or bus == line.b:
            far = line.a + line.b - bus
            eases[bus] += line.ease
            eases[far] -= line.ease
    return [fraction(ease, 1) for ease in eases]


def _flows_at(grid, levels):
    return [_flow(line, levels) for line in grid.lines]


def _flow(line, levels):
    return times(fraction(line.ease, 1), minus(levels[line.a], levels[line.b]))
