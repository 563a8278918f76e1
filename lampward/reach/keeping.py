"""The share of a box that can be kept around one of its points."""

from lampward.box.balance import check_even
from lampward.box.boxes import fits
from lampward.box.changing import draw_in
from lampward.errors import Misfit, Outside
from lampward.grant.guards import first_broken, guards
from lampward.reach.growing import last_granted


def kept(grid, box, sizes, outs, n):
    """Return the greatest k, at most n, for which the box drawn towards the point by k of n parts is granted.

    Return None if there is none, not even 0.
    """
    if not fits(grid, box):
        raise Misfit()
    if not box.holds(sizes, outs):
        raise Outside()
    check_even(grid, sizes, outs)
    found = guards(grid)
    if first_broken(grid, draw_in(box, sizes, outs, 0, n), found) is not None:
        return None
    return last_granted(grid, found, lambda k: draw_in(box, sizes, outs, k, n), n)
