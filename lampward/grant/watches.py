"""Watches: what must hold at a point if a case is to do no harm there."""

from lampward.flow.flows import all_factors
from lampward.net.cases import cases, grid_of
from lampward.net.islands import islands
from lampward.net.places import island_numbers, weight_of
from lampward.num.fractions import fraction, minus
from lampward.worst.weighing import added, opposite, scaled


class Watch:
    """A watch: in its case, the sum of the point by the weights is to be at most the most."""

    def __init__(self, case, kind, place, weights, most):
        self.case = case
        self.kind = kind
        self.place = place
        self.weights = weights
        self.most = most


def watches_of(grid, case):
    """Return the watches of the case, in their order."""
    taken = grid_of(grid, case)
    needs = [_need_weights(grid, case, island) for island in islands(taken)]
    outs = _out_weights(grid, taken, needs)
    return _of_islands(taken, case, needs) + _of_units(taken, case, outs) + _of_lines(grid, taken, case, outs)


def watches(grid):
    """Return the watches of all cases of the grid, in the order of the cases."""
    found = []
    for case in cases(grid):
        found.extend(watches_of(grid, case))
    return found


def _of_islands(taken, case, needs):
    found = []
    for island, need in zip(islands(taken), needs):
        if weight_of(taken, island) == 0:
            found.append(Watch(case, "short", island[0], need, 0))
            found.append(Watch(case, "spare", island[0], opposite(need), 0))
    return found


def _of_units(taken, case, outs):
    found = []
    for unit, out in zip(taken.units, outs):
        if unit.share > 0:
            found.append(Watch(case, "high", unit.name, out, unit.high))
            found.append(Watch(case, "low", unit.name, opposite(out), -unit.low))
    return found


def _of_lines(grid, taken, case, outs):
    found = []
    reach = all_factors(taken)
    for k, line in enumerate(taken.lines):
        flow = _flow_weights(grid, taken, outs, [row[k] for row in reach])
        found.append(Watch(case, "forth", line.name, flow, line.limit))
        found.append(Watch(case, "back", line.name, opposite(flow), line.limit))
    return found


def _need_weights(grid, case, island):
    """Return the weights of the need of an island; a unit that the case takes away does not count."""
    for_loads = [fraction(int(load.bus in island), 1) for load in grid.loads]
    for_units = [fraction(-int(unit.bus in island and unit.name != case), 1) for unit in grid.units]
    return (for_loads, for_units)


def _out_weights(grid, taken, needs):
    """Return the weights of the output after the case, for each unit that is left."""
    numbers = island_numbers(taken)
    weights = [weight_of(taken, island) for island in islands(taken)]
    found = []
    for unit in taken.units:
        number = numbers[unit.bus]
        own = _own_weights(grid, unit.name)
        if weights[number] == 0:
            found.append(own)
        else:
            found.append(added(scaled(needs[number], fraction(unit.share, weights[number])), own))
    return found


def _own_weights(grid, name):
    """Return the weights of the output of the unit with this name, at the point."""
    for_units = [fraction(int(unit.name == name), 1) for unit in grid.units]
    return ([(0, 1)] * len(grid.loads), for_units)


def _flow_weights(grid, taken, outs, reach):
    """Return the weights of the flow of a line, from the weights of the outputs and the line's factor for each bus."""
    # Buses of other islands have the factor 0, so their units and loads need not be left out.
    for_loads = [minus((0, 1), reach[load.bus]) for load in grid.loads]
    found = (for_loads, [(0, 1)] * len(grid.units))
    for unit, out in zip(taken.units, outs):
        found = added(found, scaled(out, reach[unit.bus]))
    return found
