"""Guards: watches that are made ready once and then held against many boxes."""

from lampward.grant.watches import watches
from lampward.worst.ranking import Ranking, Stock, best_total, island_places


class Guard:
    """A watch with the ranking of its weights."""

    def __init__(self, places, watch):
        self.watch = watch
        self.ranking = Ranking(places, watch.weights)


def guards(grid):
    """Return a guard for each watch of the grid, in order."""
    places = island_places(grid)
    return [Guard(places, watch) for watch in watches(grid)]


def first_broken(grid, box, found):
    """Return the watch of the first of these guards whose greatest sum is above its most, or None.

    The guards are those of the grid; the box fits it and is not empty.
    """
    stock = Stock(island_places(grid), box)
    for guard in found:
        if best_total(guard.ranking, stock) > guard.watch.most * guard.ranking.scale:
            return guard.watch
    return None
