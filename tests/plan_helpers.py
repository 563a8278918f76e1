"""What the tests of plans need: plans found the slow way, and a checker of its own."""

import itertools
import random
from fractions import Fraction

from lampward.grant.watches import watches
from lampward.loss.harms import harmless
from lampward.net.grid import Grid, Line, Load, Unit
from tests.helpers import at_island, differences, island_lists, point_within, slow_bound, small_grid, sturdy_grid, value


def is_safe(grid, sizes, outs):
    """Whether these outputs are safe for these sizes, as point [66] tells it."""
    if not all(unit.low <= n <= unit.high for unit, n in zip(grid.units, outs)):
        return False
    return not any(differences(grid, sizes, outs)) and harmless(grid, sizes, outs)


def all_outs(grid):
    rows = [range(unit.low, unit.high + 1) for unit in grid.units]
    return [list(outs) for outs in itertools.product(*rows)]


def cost_of(costs, outs):
    return sum(cost * n for cost, n in zip(costs, outs))


def least_cost(grid, sizes, costs):
    """The least cost of all safe outputs, gone through one by one, or None."""
    even = [outs for outs in all_outs(grid) if not any(differences(grid, sizes, outs))]
    for outs in sorted(even, key=lambda outs: cost_of(costs, outs)):
        if is_safe(grid, sizes, outs):
            return cost_of(costs, outs)
    return None


def is_empty(grid, sizes, ranges):
    for island in island_lists(grid):
        taken = sum(sizes[k] for k in at_island(grid.loads, island))
        rows = [ranges[k] for k in at_island(grid.units, island)]
        if taken < sum(low for low, _ in rows) or taken > sum(high for _, high in rows):
            return True
    return False


class SlowChecker:
    """Point [69] in the words of Python's own fractions."""

    def __init__(self, grid, sizes, costs, cost):
        self.grid, self.sizes, self.cost = grid, sizes, cost
        self.watches = watches(grid)
        self.islands = len(island_lists(grid))
        self.savings = [Fraction(0)] * len(sizes), [Fraction(-n) for n in costs]

    def bound(self, ranges, weights, prices):
        sizes = [(n, n) for n in self.sizes]
        return slow_bound(self.grid, sizes, ranges, weights, [value(price) for price in prices])

    def parts(self, row, ranges):
        """The parts of the box that the row leaves, or None if it is wrong."""
        if row[0] == "split":
            _, unit, at = row
            if not 0 <= unit < len(ranges) or not ranges[unit][0] <= at < ranges[unit][1]:
                return None
            low, high = ranges[unit]
            return [ranges[:unit] + [part] + ranges[unit + 1:] for part in ((low, at), (at + 1, high))]
        if row[0] == "empty":
            return [] if is_empty(self.grid, self.sizes, ranges) else None
        if len(row[-1]) != self.islands:
            return None
        if row[0] == "cost":
            if self.cost is None or self.bound(ranges, self.savings, row[1]) > -self.cost:
                return None
            return []
        if not 0 <= row[1] < len(self.watches):
            return None
        watch = self.watches[row[1]]
        weights = [-value(n) for n in watch.weights[0]], [-value(n) for n in watch.weights[1]]
        return [] if self.bound(ranges, weights, row[2]) < -watch.most else None


def slow_check_plan(grid, sizes, costs, claim, proof):
    cost, outs = claim
    if (cost is None) != (outs is None):
        return -1
    if outs is not None:
        if len(outs) != len(grid.units) or not is_safe(grid, sizes, outs) or cost_of(costs, outs) != cost:
            return -1
    checker = SlowChecker(grid, sizes, costs, cost)
    boxes = [[(unit.low, unit.high) for unit in grid.units]]
    for number, row in enumerate(proof):
        if not boxes:
            return number
        parts = checker.parts(row, boxes.pop(0))
        if parts is None:
            return number
        boxes = parts + boxes
    return len(proof) if boxes else None


def plan_grid(chance, many, span, tight=1.2, buses=None):
    """A connected grid with so many units, whose limits are near to what some outputs need; sizes; and costs."""
    buses = buses or chance.randint(2, 9)
    ends = [(chance.randrange(k), k) for k in range(1, buses)]
    while len(ends) < min(12, buses + 2):
        ends.append(tuple(chance.sample(range(buses), 2)))
    units = []
    for k in range(many):
        low = chance.choice([0, 0, 0, chance.randint(0, 40)])
        units.append(Unit("u" + str(k), chance.randrange(buses), low, low + span - 1, chance.randint(1, 9)))
    outs = [chance.randint(unit.low, (unit.low + unit.high) // 2) for unit in units]
    loads = [Load("d" + str(k), chance.randrange(buses)) for k in range(6)]
    sizes, left = [0] * 6, sum(outs)
    for k in range(6):
        sizes[k] = left if k == 5 else chance.randint(0, left // 2)
        left -= sizes[k]
    limits = [int(max(sizes) * tight * chance.randint(5, 15)) // 10 for _ in ends]
    lines = [Line("l" + str(k), a, b, chance.randint(1, 9), limits[k]) for k, (a, b) in enumerate(ends)]
    return Grid(buses, lines, units, loads), sizes, [chance.randint(0, 99) for _ in units]


def drawn_plans(seed, many):
    """Grids with few outputs to choose from, sizes and costs; many of them have proofs of several rows."""
    chance = random.Random(seed)
    for k in range(many):
        if k % 4 == 0:
            grid = small_grid(chance, 5)
            sizes = [chance.randint(0, 5) for _ in grid.loads]
        else:
            grid = sturdy_grid(chance, 10, (3, 6, 9, 15), 1 if k % 4 == 1 else None)
            sizes, _ = point_within(chance, grid, 1, 6)
        if sum(unit.high - unit.low for unit in grid.units) <= 32:
            top = chance.choice([1, 9, 99])
            yield grid, sizes, [chance.randint(0, top) for _ in grid.units]
