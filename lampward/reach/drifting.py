"""Points that drift at rates, and how long a granted box can widen by them."""

from lampward.box.balance import check_numbers
from lampward.box.boxes import fits
from lampward.box.changing import widen
from lampward.box.emptiness import check_filled
from lampward.errors import Misfit, NotGranted
from lampward.grant.guards import first_broken, guards
from lampward.reach.growing import last_granted


def goes(rates, first, second):
    """Tell whether the first point goes to the second one in one step."""
    pairs = zip(rates, first, second)
    return all([_keeps_rates(own_rates, start, end) for own_rates, start, end in pairs])


def reach(grid, box, rates, most):
    """Return the greatest number of steps, at most the most, for which the widened box is granted."""
    if not fits(grid, box):
        raise Misfit()
    check_numbers(grid, rates[0], rates[1])
    check_filled(grid, box)
    found = guards(grid)
    if first_broken(grid, box, found) is not None:
        raise NotGranted()
    return last_granted(grid, found, lambda steps: widen(grid, box, rates, steps), most)


def _keeps_rates(rates, start, end):
    return all([abs(a - b) <= rate for rate, a, b in zip(rates, start, end)])
