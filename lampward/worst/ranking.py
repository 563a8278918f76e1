"""Weights as whole numbers, ranked: how the greatest sum of a box is reached.

A load counts as a unit that feeds in minus its size, with the opposite weight. So in each island
the numbers of an even point add up to 0, and its greatest sum is reached when, from the low ends
of all ranges, the numbers with the greatest factors are raised first. A place is an index in the
list of the loads, then the units.
"""

from lampward.net.places import all_placed
from lampward.num.fractions import fraction
from lampward.num.scaling import common_scale, whole


class Ranking:
    """Weights times a scale: for each island, its pairs of a factor and a place, the greatest factor first."""

    def __init__(self, places, weights):
        for_loads, for_units = weights
        self.scale = common_scale(for_loads + for_units)
        factors = [-whole(weight, self.scale) for weight in for_loads]
        factors.extend([whole(weight, self.scale) for weight in for_units])
        self.islands = [_ranked(factors, island) for island in places]


class Stock:
    """The low end and the room above it for each place of a box, and what is missing there in each island."""

    def __init__(self, places, box):
        self.lows = [-high for _, high in box.sizes] + [low for low, _ in box.outs]
        self.rooms = [high - low for low, high in box.sizes + box.outs]
        self.missing = [-sum([self.lows[place] for place in island]) for island in places]


def island_places(grid):
    """Return the places of each island of the grid."""
    parts = grid.loads + grid.units
    return all_placed(parts, grid)


def best_numbers(ranking, stock):
    """Return the number for each place, so that the sum is the greatest one of all even points."""
    numbers = list(stock.lows)
    for pairs, missing in zip(ranking.islands, stock.missing):
        left = missing
        for _, place in pairs:
            raised = min(left, stock.rooms[place])
            numbers[place] += raised
            left -= raised
    return numbers


def best_total(ranking, stock):
    """Return the greatest sum of all even points, times the scale."""
    found = 0
    for pairs, missing in zip(ranking.islands, stock.missing):
        left = missing
        for factor, place in pairs:
            raised = min(left, stock.rooms[place])
            found += factor * (stock.lows[place] + raised)
            left -= raised
    return found


def best_prices(ranking, stock):
    """Return the prices whose bound is the greatest sum."""
    rows = zip(ranking.islands, stock.missing)
    return [_price(pairs, stock.rooms, missing, ranking.scale) for pairs, missing in rows]


def _ranked(factors, island):
    return sorted([(factors[place], place) for place in island], reverse=True)


def _price(pairs, rooms, missing, scale):
    """Return the price at which nothing is gained or lost by the number that is raised last."""
    left = missing
    for factor, place in pairs:
        left -= rooms[place]
        if left <= 0:
            return fraction(-factor, scale)
    return (0, 1)
