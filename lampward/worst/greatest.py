"""The greatest sum of all even points of a box."""

from lampward.box.balance import check_numbers, common_sum
from lampward.box.boxes import Box
from lampward.box.points import even_point
from lampward.errors import EmptyBox
from lampward.net.islands import islands
from lampward.net.places import placed
from lampward.num.fractions import minus, plus, times
from lampward.worst.sums import sum_of
from lampward.worst.weighing import priced


def greatest(grid, box, weights):
    """Return the greatest sum, prices that have it as their bound, and the sizes and outputs of a point with it."""
    check_numbers(grid, weights[0], weights[1])
    if even_point(grid, box) is None:
        raise EmptyBox()
    prices = [_price(grid, box, weights, island) for island in islands(grid)]
    for_loads, for_units = priced(grid, weights, prices)
    best = Box(_best_parts(for_loads, box.sizes), _best_parts(for_units, box.outs))
    sizes, outs = even_point(grid, best)
    return (sum_of(weights, sizes, outs), prices, sizes, outs)


def _price(grid, box, weights, island):
    """Return a price at which the best sizes and the best outputs of the island can be equal in sum."""
    loads = placed(grid.loads, island)
    units = placed(grid.units, island)
    for_loads = [weights[0][k] for k in loads]
    for_units = [weights[1][k] for k in units]
    sizes = [box.sizes[k] for k in loads]
    outs = [box.outs[k] for k in units]
    # What is best changes only where the price meets a weight, so one of these prices fits.
    for price in for_loads + [times(weight, (-1, 1)) for weight in for_units]:
        best_sizes = _best_parts([minus(weight, price) for weight in for_loads], sizes)
        best_outs = _best_parts([plus(weight, price) for weight in for_units], outs)
        if common_sum(best_sizes, best_outs) is not None:
            return price
    return (0, 1)


def _best_parts(weights, ranges):
    """Return the part of each range in which all numbers have the greatest product with the weight."""
    found = []
    for weight, (low, high) in zip(weights, ranges):
        if weight[0] > 0:
            found.append((high, high))
        elif weight[0] < 0:
            found.append((low, low))
        else:
            found.append((low, high))
    return found
