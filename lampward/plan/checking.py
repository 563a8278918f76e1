"""The checker of plans and their proofs."""

from lampward.box.boxes import Box
from lampward.box.emptiness import is_empty
from lampward.box.points import is_even
from lampward.grant.watches import watches
from lampward.loss.harms import harmless
from lampward.net.islands import islands
from lampward.num.fractions import less
from lampward.plan.claims import cost_of, first_box
from lampward.worst.sums import bound
from lampward.worst.weighing import opposite


def check_plan(grid, sizes, costs, claim, proof):
    """Return None if the proof shows the claim.

    Otherwise return -1 if the claim is wrong by itself, or the index of the first row that is wrong
    or too many, or the number of rows if a box is left.
    """
    box = first_box(grid, sizes, costs)
    cost, outs = claim
    if not _is_sound(grid, box, sizes, costs, cost, outs):
        return -1
    checker = Checker(grid, costs, cost)
    boxes = [box]
    for number, row in enumerate(proof):
        if boxes == [] or not checker.is_right(row, boxes[-1]):
            return number
        boxes.extend(_parts(row, boxes.pop()))
    return None if boxes == [] else len(proof)


class Checker:
    """What the rows of a proof are held against."""

    def __init__(self, grid, costs, cost):
        self.grid = grid
        self.watches = watches(grid)
        self.savings = ([(0, 1)] * len(grid.loads), [(-number, 1) for number in costs])
        self.cost = cost

    def is_right(self, row, box):
        """Tell whether the row is right about the box."""
        if row[0] == "split":
            return _divides(box, row[1], row[2])
        if row[0] == "empty":
            return is_empty(self.grid, box)
        if row[0] == "harm":
            return self._does_harm(box, row[1], row[2])
        return self._costs_enough(box, row[1])

    def _does_harm(self, box, number, prices):
        if number < 0 or number >= len(self.watches) or not self._has_prices(prices):
            return False
        watch = self.watches[number]
        return less(bound(self.grid, box, opposite(watch.weights), prices), (-watch.most, 1))

    def _costs_enough(self, box, prices):
        if self.cost is None or not self._has_prices(prices):
            return False
        return not less((-self.cost, 1), bound(self.grid, box, self.savings, prices))

    def _has_prices(self, prices):
        return len(prices) == len(islands(self.grid))


def _is_sound(grid, box, sizes, costs, cost, outs):
    """Tell whether there is no plan, or the outputs are safe and have the cost."""
    if cost is None or outs is None:
        return cost is None and outs is None
    if not box.holds(sizes, outs) or not is_even(grid, sizes, outs):
        return False
    return cost_of(costs, outs) == cost and harmless(grid, sizes, outs)


def _divides(box, unit, at):
    if unit < 0 or unit >= len(box.outs):
        return False
    low, high = box.outs[unit]
    return low <= at and at < high


def _parts(row, box):
    """Return the parts of the box that are left by a row that is right, the next one last."""
    if row[0] != "split":
        return []
    _, unit, at = row
    low, high = box.outs[unit]
    return [_with_range(box, unit, at + 1, high), _with_range(box, unit, low, at)]


def _with_range(box, unit, low, high):
    outs = list(box.outs)
    outs[unit] = (low, high)
    return Box(box.sizes, outs)
