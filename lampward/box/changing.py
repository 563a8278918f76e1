"""Boxes that are made wider, or drawn towards a point."""

from lampward.box.balance import check_numbers
from lampward.box.boxes import Box, fits
from lampward.box.widest import widest
from lampward.errors import Misfit, Outside


def widen(grid, box, rates, steps):
    """Return the box widened by the rates for so many steps."""
    if not fits(grid, box):
        raise Misfit()
    for_loads, for_units = rates
    check_numbers(grid, for_loads, for_units)
    bounds = widest(grid)
    return Box(
        _widened(box.sizes, for_loads, steps, bounds.sizes),
        _widened(box.outs, for_units, steps, bounds.outs),
    )


def draw_in(box, sizes, outs, k, n):
    """Return the box drawn towards the point by k of n parts."""
    if not box.holds(sizes, outs):
        raise Outside()
    # Callers may go beyond the limits of k and n; a range must stay a range.
    n = max(n, 1)
    k = max(0, min(k, n))
    return Box(_drawn(box.sizes, sizes, k, n), _drawn(box.outs, outs, k, n))


def _widened(ranges, rates, steps, bounds):
    found = []
    for (low, high), rate, (least, most) in zip(ranges, rates, bounds):
        # Callers may go below the limits of rates and steps; a range must stay a range.
        moved = max(0, rate * steps)
        found.append((max(least, low - moved), min(most, high + moved)))
    return found


def _drawn(ranges, numbers, k, n):
    """Return the ranges with both ends drawn towards the numbers; what is taken off an end is rounded down."""
    found = []
    for (low, high), number in zip(ranges, numbers):
        found.append((number - (number - low) * k // n, number + (high - number) * k // n))
    return found
