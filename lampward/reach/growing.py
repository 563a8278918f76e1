"""Boxes that grow with a number: the greatest number whose box is granted."""

from lampward.grant.guards import first_broken


def last_granted(grid, found, box_of, most):
    """Return the greatest number, at most the most, whose box is granted by these guards of the grid.

    The box of 0 is granted, and each box lies within those of greater numbers. So all boxes with
    lesser numbers than a granted one are granted, too, and the numbers can be halved.
    """
    low = 0
    high = most
    while low < high:
        middle = (low + high + 1) // 2
        if first_broken(grid, box_of(middle), found) is None:
            low = middle
        else:
            high = middle - 1
    return low
