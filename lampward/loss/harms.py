"""The harms that a case does."""

from lampward.loss.taking import after
from lampward.net.cases import cases
from lampward.num.fractions import less


def harms(grid, case, sizes, outs):
    """Return the harms of the case at the point, in their order."""
    state = after(grid, case, sizes, outs)
    return _left(state) + _out_of_range(state) + _beyond_limit(state)


def harmless(grid, sizes, outs):
    """Tell whether no case of the grid does harm at the point."""
    for case in cases(grid):
        if harms(grid, case, sizes, outs) != []:
            return False
    return True


def _left(state):
    found = []
    for island, need, weight in zip(state.islands, state.needs, state.weights):
        if weight == 0 and need != 0:
            found.append(("left", island[0], need))
    return found


def _out_of_range(state):
    found = []
    for unit, out in zip(state.grid.units, state.outs):
        if less(out, (unit.low, 1)) or less((unit.high, 1), out):
            found.append(("range", unit.name, out))
    return found


def _beyond_limit(state):
    found = []
    for line, flow in zip(state.grid.lines, state.flows):
        if flow is not None and (less((line.limit, 1), flow) or less(flow, (-line.limit, 1))):
            found.append(("over", line.name, flow))
    return found
