"""Weights: pairs of lists of fractions, for the loads and for the units."""

from lampward.net.places import island_numbers
from lampward.num.fractions import minus, plus, times


def scaled(weights, factor):
    """Return the weights, each times the factor."""
    for_loads, for_units = weights
    return ([times(weight, factor) for weight in for_loads], [times(weight, factor) for weight in for_units])


def opposite(weights):
    """Return the weights with the opposite signs."""
    return scaled(weights, (-1, 1))


def added(first, second):
    """Return the sums of the weights of both."""
    return (_sums(first[0], second[0]), _sums(first[1], second[1]))


def priced(grid, weights, prices):
    """Return what is left of the weights when each load pays the price of its island, and each unit gets it."""
    numbers = island_numbers(grid)
    for_loads = [minus(weight, prices[numbers[load.bus]]) for load, weight in zip(grid.loads, weights[0])]
    for_units = [plus(weight, prices[numbers[unit.bus]]) for unit, weight in zip(grid.units, weights[1])]
    return (for_loads, for_units)


def _sums(first, second):
    return [plus(a, b) for a, b in zip(first, second)]
