"""Proofs that a box is granted, and their checker."""

from lampward.box.emptiness import check_filled
from lampward.errors import NotGranted
from lampward.grant.guards import first_broken, guards
from lampward.grant.watches import watches
from lampward.net.islands import islands
from lampward.num.fractions import less
from lampward.worst.ranking import Stock, best_prices, island_places
from lampward.worst.sums import bound


def prove(grid, box):
    """Return a proof of the box: for each watch of the grid, prices whose bound is at most its most."""
    check_filled(grid, box)
    found = guards(grid)
    if first_broken(grid, box, found) is not None:
        raise NotGranted()
    stock = Stock(island_places(grid), box)
    return [best_prices(guard.ranking, stock) for guard in found]


def check(grid, box, proof):
    """Return None if the proof is one of the box, otherwise the index of the first watch that it fails for.

    If it fails for none, but is longer, this is the number of watches.
    """
    check_filled(grid, box)
    found = watches(grid)
    for number, watch in enumerate(found):
        if number == len(proof) or not _suffice(grid, box, watch, proof[number]):
            return number
    if len(proof) > len(found):
        return len(found)
    return None


def _suffice(grid, box, watch, prices):
    """Tell whether the prices show that the watch holds in the whole box."""
    if len(prices) != len(islands(grid)):
        return False
    return not less((watch.most, 1), bound(grid, box, watch.weights, prices))
