"""The state of a grid after a case."""

from lampward.box.balance import check_even, need_of
from lampward.flow.flows import flows, heights
from lampward.net.cases import grid_of
from lampward.net.islands import islands
from lampward.net.places import island_numbers, weight_of
from lampward.num.fractions import fraction, minus, plus


class After:
    """The state after a case, made from the grid of the case and the point without what is lost."""

    def __init__(self, grid, sizes, outs):
        self.grid = grid
        self.islands = islands(grid)
        self.needs = [need_of(grid, sizes, outs, island) for island in self.islands]
        self.weights = [weight_of(grid, island) for island in self.islands]
        self.outs = _outs_after(grid, outs, self.needs, self.weights)
        dark = _dark_buses(self.islands, self.needs, self.weights)
        feeds = _feeds(grid, sizes, self.outs, dark)
        self.heights = heights(grid, feeds)
        self.flows = _flows_after(grid, feeds, dark)


def after(grid, case, sizes, outs):
    """Return the state after the case at the point."""
    taken = grid_of(grid, case)
    check_even(grid, sizes, outs)
    kept = [out for unit, out in zip(grid.units, outs) if unit.name != case]
    return After(taken, sizes, kept)


def _outs_after(grid, outs, needs, weights):
    """Return the outputs after the units have taken the needs by their shares."""
    numbers = island_numbers(grid)
    found = []
    for unit, out in zip(grid.units, outs):
        number = numbers[unit.bus]
        found.append(_out_after(out, unit.share, needs[number], weights[number]))
    return found


def _out_after(out, share, need, weight):
    if weight == 0:
        return fraction(out, 1)
    return plus(fraction(out, 1), fraction(need * share, weight))


def _dark_buses(parts, needs, weights):
    """Return the buses of the islands in which something is left."""
    found = []
    for island, need, weight in zip(parts, needs, weights):
        if weight == 0 and need != 0:
            found.extend(island)
    return found


def _feeds(grid, sizes, outs, dark):
    """Return the feed of each bus; where something is left, nothing flows, as if nothing was fed in."""
    feeds = [(0, 1)] * grid.buses
    for load, size in zip(grid.loads, sizes):
        feeds[load.bus] = minus(feeds[load.bus], fraction(size, 1))
    for unit, out in zip(grid.units, outs):
        feeds[unit.bus] = plus(feeds[unit.bus], out)
    for bus in dark:
        feeds[bus] = (0, 1)
    return feeds


def _flows_after(grid, feeds, dark):
    carried = flows(grid, feeds)
    return [None if line.a in dark else flow for line, flow in zip(grid.lines, carried)]
