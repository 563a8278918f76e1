"""Rules: what outputs keep if they are safe, in whole numbers."""

from math import gcd

from lampward.net.places import all_placed
from lampward.num.scaling import common_scale, whole


class Supply:
    """The units of each island, and what they have to feed in together."""

    def __init__(self, grid, sizes):
        self.members = all_placed(grid.units, grid)
        self.demands = [sum([sizes[k] for k in loads]) for loads in all_placed(grid.loads, grid)]


class Rule:
    """The sum of the outputs, each times its factor, is at most the most.

    `rows` has what `ranked` returns, for the islands in which the factors differ. `watch` is the
    index of the watch of the grid that the rule comes from, or None if it is about the cost.
    """

    def __init__(self, supply, factors, most, watch):
        self.most = most
        self.watch = watch
        rows = ranked(supply, factors)
        self.rows = [(demand, pairs) for demand, pairs in rows if pairs[0][0] < pairs[-1][0]]


def ranked(supply, factors):
    """Return a pair for each island that has units: what they feed in, and pairs of a factor and a unit, ranked."""
    rows = zip(supply.demands, supply.members)
    return [(demand, sorted([(factors[unit], unit) for unit in units])) for demand, units in rows if units != []]


def safety_rules(found, sizes, supply):
    """Return the rules that even outputs within the units' ranges keep exactly if no watch of the grid is broken."""
    strictest = {}
    for number, watch in enumerate(found):
        whole_factors, whole_most = _in_whole_numbers(watch, sizes)
        factors, most = levelled(supply, whole_factors, whole_most)
        if factors not in strictest or most < strictest[factors][0]:
            strictest[factors] = (most, number)
    return [Rule(supply, factors, most, number) for factors, (most, number) in strictest.items()]


def levelled(supply, factors, most):
    """Return factors and a most that mean the same at even points, with the least numbers.

    As the outputs of an island have a fixed sum, the least factor there can be taken from all.
    What is left are whole numbers, so the most can be divided by a common divisor and rounded down.
    """
    low = list(factors)
    for units, demand in zip(supply.members, supply.demands):
        least = min([factors[unit] for unit in units], default=0)
        most -= least * demand
        for unit in units:
            low[unit] -= least
    common = 0
    for factor in low:
        common = gcd(common, factor)
    if common == 0:
        return (tuple(low), most)
    return (tuple([factor // common for factor in low]), most // common)


def _in_whole_numbers(watch, sizes):
    """Return the factors for the outputs, and the most, when the loads have these sizes."""
    for_loads, for_units = watch.weights
    scale = common_scale(for_loads + for_units)
    taken = sum([whole(weight, scale) * size for weight, size in zip(for_loads, sizes)])
    return ([whole(weight, scale) for weight in for_units], watch.most * scale - taken)
