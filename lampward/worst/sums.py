"""Sums of points by weights, and bounds of such sums."""

from lampward.box.balance import check_numbers
from lampward.box.boxes import fits
from lampward.errors import Misfit
from lampward.net.islands import islands
from lampward.num.fractions import plus, times, total
from lampward.worst.weighing import priced


def sum_of(weights, sizes, outs):
    """Return the sum of all sizes and outputs, each times its weight."""
    for_loads, for_units = weights
    return plus(_weighed(for_loads, sizes), _weighed(for_units, outs))


def bound(grid, box, weights, prices):
    """Return the bound of the prices."""
    if not fits(grid, box):
        raise Misfit()
    check_numbers(grid, weights[0], weights[1])
    if len(prices) != len(islands(grid)):
        raise Misfit()
    for_loads, for_units = priced(grid, weights, prices)
    return sum_of((for_loads, for_units), _best(for_loads, box.sizes), _best(for_units, box.outs))


def _weighed(weights, numbers):
    return total([times(weight, (number, 1)) for weight, number in zip(weights, numbers)])


def _best(weights, ranges):
    """Return the end of each range at which it has the greatest product with its weight."""
    return [high if weight[0] > 0 else low for weight, (low, high) in zip(weights, ranges)]
