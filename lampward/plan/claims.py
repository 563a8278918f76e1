"""What plans and their checker begin with."""

from lampward.box.balance import check_numbers
from lampward.box.boxes import Box


def first_box(grid, sizes, costs):
    """Return the box of the sizes and the units' own ranges.

    Raise Misfit if there is not a size for each load and a cost for each unit, then BadBox for a wrong size.
    """
    check_numbers(grid, sizes, costs)
    return Box([(size, size) for size in sizes], [(unit.low, unit.high) for unit in grid.units])


def cost_of(costs, outs):
    """Return the cost of the outputs."""
    return sum([cost * out for cost, out in zip(costs, outs)])
