"""The greatest sum of all even points of a box."""

from lampward.box.balance import check_numbers
from lampward.box.emptiness import check_filled
from lampward.num.fractions import fraction
from lampward.worst.ranking import Ranking, Stock, best_numbers, best_prices, best_total, island_places


def greatest(grid, box, weights):
    """Return the greatest sum, prices that have it as their bound, and the sizes and outputs of a point with it."""
    check_numbers(grid, weights[0], weights[1])
    check_filled(grid, box)
    places = island_places(grid)
    ranking = Ranking(places, weights)
    stock = Stock(places, box)
    value = fraction(best_total(ranking, stock), ranking.scale)
    numbers = best_numbers(ranking, stock)
    many = len(grid.loads)
    sizes = [-number for number in numbers[:many]]
    return (value, best_prices(ranking, stock), sizes, numbers[many:])
