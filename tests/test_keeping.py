import random
import unittest

from lampward.box.boxes import Box
from lampward.box.changing import draw_in
from lampward.errors import Misfit, Outside, Uneven
from lampward.grant.granting import grant
from lampward.loss.harms import harmless
from lampward.net.grid import Grid, Line, Load, Unit
from lampward.reach.keeping import kept
from tests.helpers import (
    first_uneven, made_grids, misfits, point_within, ranges_around, ranges_of, sturdy_grid, view, wrong_numbers,
)


def drawn(seed, many):
    """Grids, ranges of boxes, and an even point of each."""
    chance = random.Random(seed)
    for _ in range(many):
        grid = sturdy_grid(chance, chance.choice([9, 60, 300]), (9, 20, 40, 99, 200))
        point = point_within(chance, grid, 0, chance.choice([4, 9, 30]))
        yield grid, ranges_around(chance, grid, *point, chance.choice([1, 5, 40, 300])), point


class Kept(unittest.TestCase):
    def asked(self, grid, ranges, point, n):
        box, before = Box(*ranges), view(grid)
        sizes, outs = list(point[0]), list(point[1])
        found = kept(grid, box, sizes, outs, n)
        self.assertEqual(((sizes, outs), view(grid)), ((list(point[0]), list(point[1])), before))
        self.assertEqual(ranges_of(box), (tuple(ranges[0]), tuple(ranges[1])))
        return found

    def slow(self, grid, ranges, point, n):
        best = None
        for k in range(n + 1):
            if grant(grid, draw_in(Box(*ranges), *point, k, n)) is None:
                best = k
        return best

    def test_part_by_part(self):
        seen = {}
        for k, (grid, ranges, point) in enumerate(drawn(231, 150)):
            n = (1, 2, 7, 12)[k % 4]
            found = self.asked(grid, ranges, point, n)
            self.assertEqual(found, self.slow(grid, ranges, point, n))
            kind = found if found in (None, 0, n) else "between"
            seen[kind] = seen.get(kind, 0) + 1
        for kind in (None, 0, "between"):
            self.assertGreater(seen[kind], 8, kind)

    def test_fine_parts(self):
        many = 0
        for grid, ranges, point in drawn(232, 120):
            for n in (999, 500):
                found, box = self.asked(grid, ranges, point, n), Box(*ranges)
                self.assertEqual(found is None, not harmless(grid, *point))
                if found is not None:
                    self.assertIs(type(found), int)
                    self.assertTrue(0 <= found <= n)
                    self.assertIsNone(grant(grid, draw_in(box, *point, found, n)))
                    if found < n:
                        many += 1
                        self.assertIsNotNone(grant(grid, draw_in(box, *point, found + 1, n)))
        self.assertGreater(many, 40)

    def test_known_ones(self):
        lines = [Line("a", 0, 1, 1, 50), Line("b", 0, 1, 1, 50)]
        units = [Unit("u", 0, 0, 100, 1), Unit("v", 0, 0, 100, 1)]
        grid = Grid(2, lines, units, [Load("d", 1)])
        wide = [(0, 90)], [(0, 100), (0, 100)]
        for ranges, point, n, found in (
            (wide, ([40], [20, 20]), 1, 0), (wide, ([40], [20, 20]), 5, 1), (wide, ([40], [20, 20]), 10, 2),
            (wide, ([40], [20, 20]), 50, 10), (wide, ([40], [20, 20]), 999, 219), (wide, ([50], [25, 25]), 10, 0),
            (wide, ([50], [25, 25]), 999, 24), (wide, ([51], [26, 25]), 999, None), (wide, ([51], [26, 25]), 1, None),
            (([(0, 50)], [(0, 100), (0, 100)]), ([40], [20, 20]), 999, 999),
            (([(0, 50)], [(0, 100), (0, 100)]), ([40], [20, 20]), 1, 1),
            (([(40, 40)], [(20, 20), (20, 20)]), ([40], [20, 20]), 999, 999),
            (([(60, 60)], [(30, 30), (30, 30)]), ([60], [30, 30]), 999, None),
        ):
            self.assertEqual(self.asked(grid, ranges, point, n), found, (point, n))

    def test_no_loads_no_units(self):
        self.assertEqual(self.asked(Grid(1, [], [], []), ([], []), ([], []), 5), 5)
        self.assertEqual(self.asked(Grid(1, [], [], [Load("d", 0)]), ([(0, 9)], []), ([0], []), 5), 5)


class Errors(unittest.TestCase):
    def assert_raises(self, error, grid, ranges, point, bus=None):
        box, before = Box(*ranges), view(grid)
        given = (list(point[0]), list(point[1]))
        for n in (1, 5, 999):
            with self.assertRaises(error) as caught:
                kept(grid, box, point[0], point[1], n)
            if bus is not None:
                self.assertEqual(caught.exception.bus, bus)
        self.assertEqual(((point[0], point[1]), view(grid)), (given, before))
        self.assertEqual(ranges_of(box), (tuple(ranges[0]), tuple(ranges[1])))

    def test_misfit_comes_first(self):
        for grid in made_grids(233, 36):
            ranges = [(0, 999)] * len(grid.loads), [(unit.low, unit.high) for unit in grid.units]
            outs = [unit.low for unit in grid.units]
            for wrong in misfits(grid):
                self.assert_raises(Misfit, grid, wrong, ([3] * len(grid.loads), outs))
                self.assert_raises(Misfit, grid, wrong, ([-3] * len(grid.loads), outs + [7]))
            for wrong in wrong_numbers([3] * len(grid.loads), outs, 0):
                self.assert_raises(Outside, grid, ranges, wrong)

    def test_outside_comes_before_uneven(self):
        units = [Unit("u", 0, 2, 8, 1), Unit("v", 1, 2, 8, 1)]
        grid = Grid(2, [], units, [Load("d", 0), Load("e", 1)])
        ranges = [(3, 7), (3, 7)], [(3, 7), (3, 7)]
        for sizes, outs, bus in (([4, 4], [5, 4], 0), ([4, 4], [4, 5], 1), ([4, 5], [5, 4], 0), ([5, 6], [5, 5], 1)):
            self.assert_raises(Uneven, grid, ranges, (sizes, outs), bus)
            self.assertEqual(first_uneven(grid, sizes, outs), bus)
        for sizes, outs in (([2, 4], [2, 4]), ([8, 4], [8, 4]), ([4, 4], [4, 8]), ([2, 4], [3, 5]), ([4], [4]),
                            ([4, 4], [4, 4, 4]), ([], []), ([-4, 4], [-4, 4]), ([4, 4], [1000, 4])):
            self.assert_raises(Outside, grid, ranges, (sizes, outs))
        empty = [(7, 8), (3, 7)], [(3, 6), (3, 7)]
        self.assert_raises(Uneven, grid, empty, ([7, 5], [6, 5]), 0)
        self.assert_raises(Outside, grid, empty, ([9, 5], [6, 5]))
