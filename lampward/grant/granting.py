"""Granting boxes, or telling why they are refused."""

from lampward.box.emptiness import check_filled
from lampward.grant.guards import first_broken, guards
from lampward.worst.greatest import greatest


class Refusal:
    """Why a box is refused: a watch, its greatest sum in the box, and a point that has this sum."""

    def __init__(self, watch, value, sizes, outs):
        self.case = watch.case
        self.kind = watch.kind
        self.place = watch.place
        self.most = watch.most
        self.value = value
        self.sizes = sizes
        self.outs = outs


def grant(grid, box):
    """Return None if the box is granted, otherwise the refusal."""
    check_filled(grid, box)
    return refusal_by(grid, box, guards(grid))


def refusal_by(grid, box, found):
    """Return the refusal of the box by the first of the grid's guards that is broken, or None."""
    watch = first_broken(grid, box, found)
    if watch is None:
        return None
    value, _, sizes, outs = greatest(grid, box, watch.weights)
    return Refusal(watch, value, sizes, outs)
