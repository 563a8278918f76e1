import itertools
import random
import unittest
from fractions import Fraction

from lampward.box.boxes import Box
from lampward.errors import Misfit
from lampward.net.grid import Grid, Line, Load, Unit
from lampward.worst.sums import bound, sum_of
from tests.helpers import (
    assert_fraction, at_island, even_points_of, island_lists, made_grids, made_ranges, made_weights, misfits, pair,
    pairs, ranges_in, ranges_of, slow_bound, slow_sum, small_box, small_grid, view, wrong_numbers,
)


class SumOf(unittest.TestCase):
    def assert_sum(self, weights, sizes, outs):
        given, numbers = pairs(weights), (list(sizes), list(outs))
        assert_fraction(self, sum_of(given, sizes, outs), slow_sum(weights, sizes, outs))
        self.assertEqual((given, (sizes, outs)), (pairs(weights), numbers))

    def test_made_points(self):
        chance = random.Random(91)
        for k, grid in enumerate(made_grids(91, 300)):
            most = (5, 999, 10 ** 30)[k % 3]
            sizes = [chance.randint(-most, most) for _ in grid.loads]
            outs = [chance.randint(-most, most) for _ in grid.units]
            self.assert_sum(made_weights(chance, grid, k % 2 == 0), sizes, outs)

    def test_empty_lists(self):
        self.assertEqual(sum_of(([], []), [], []), (0, 1))
        self.assertEqual(sum_of(([(1, 2)], []), [3], []), (3, 2))
        self.assertEqual(sum_of(([], [(1, 2)]), [], [3]), (3, 2))

    def test_known_ones(self):
        self.assertEqual(sum_of(([(1, 2), (-1, 3)], [(1, 6)]), [1, 1], [5]), (1, 1))
        self.assertEqual(sum_of(([(1, 2)], [(-1, 2)]), [7], [7]), (0, 1))
        self.assertEqual(sum_of(([(-1, 4)], [(-1, 4)]), [-3], [5]), (-1, 2))
        self.assertEqual(sum_of(([(0, 1)], [(0, 1)]), [999], [-999]), (0, 1))
        self.assertEqual(sum_of(([(2, 1), (3, 1)], [(5, 1), (7, 1)]), [10, 100], [1000, 10000]), (75320, 1))

    def test_each_number_counts(self):
        for k in range(5):
            weights = [Fraction(0)] * 5
            weights[k] = Fraction(2, 3)
            for numbers in ([1, 2, 3, 4, 5], [-6, 0, 9, -1, 7]):
                self.assert_sum((weights[:2], weights[2:]), numbers[:2], numbers[2:])


class Bounds(unittest.TestCase):
    def assert_bound(self, grid, ranges, weights, prices):
        box, before = Box(*ranges), view(grid)
        given, numbers = pairs(weights), [pair(price) for price in prices]
        found = bound(grid, box, given, numbers)
        assert_fraction(self, found, slow_bound(grid, *ranges, weights, prices))
        self.assertEqual((given, numbers), (pairs(weights), [pair(price) for price in prices]))
        self.assertEqual((ranges_of(box), view(grid)), ((tuple(ranges[0]), tuple(ranges[1])), before))
        return found

    def made_prices(self, chance, grid, weights):
        """Prices that often are the weight of a load, or minus that of a unit, in the island."""
        found = []
        for island in island_lists(grid):
            own = [weights[0][k] for k in at_island(grid.loads, island)]
            own += [-weights[1][k] for k in at_island(grid.units, island)]
            found.append(chance.choice(own + [Fraction(chance.randint(-20, 20), chance.randint(1, 6)), Fraction(0)]))
        return found

    def test_made_boxes(self):
        chance = random.Random(92)
        for k, grid in enumerate(made_grids(92, 300)):
            ranges = made_ranges(chance, len(grid.loads)), ranges_in(chance, grid.units)
            weights = made_weights(chance, grid, k % 2 == 0)
            self.assert_bound(grid, ranges, weights, self.made_prices(chance, grid, weights))

    def test_no_even_point_is_above(self):
        chance = random.Random(93)
        many = 0
        for k in range(200):
            grid = small_grid(chance)
            ranges = small_box(chance, grid)
            weights = made_weights(chance, grid, k % 2 == 0)
            points = even_points_of(grid, *ranges)
            for _ in range(3):
                prices = self.made_prices(chance, grid, weights)
                found = self.assert_bound(grid, ranges, weights, prices)
                for sizes, outs in points:
                    many += 1
                    self.assertLessEqual(slow_sum(weights, sizes, outs), Fraction(*found))
        self.assertGreater(many, 1000)

    def test_signs(self):
        """The load pays the price, the unit gets it; a factor of 0 makes all numbers equal."""
        grid = Grid(1, [], [Unit("u", 0, 0, 99, 1)], [Load("d", 0)])
        for weight, price in itertools.product(range(-3, 4), repeat=2):
            row = [Fraction(weight)], [Fraction(0)]
            self.assert_bound(grid, ([(3, 7)], [(0, 0)]), row, [Fraction(price)])
            row = [Fraction(0)], [Fraction(weight)]
            self.assert_bound(grid, ([(0, 0)], [(3, 7)]), row, [Fraction(price)])
        box = Box([(3, 7)], [(20, 50)])
        self.assertEqual(bound(grid, box, ([(1, 1)], [(1, 1)]), [(0, 1)]), (57, 1))
        self.assertEqual(bound(grid, box, ([(1, 1)], [(1, 1)]), [(1, 1)]), (100, 1))
        self.assertEqual(bound(grid, box, ([(1, 1)], [(1, 1)]), [(-1, 1)]), (14, 1))
        self.assertEqual(bound(grid, box, ([(1, 1)], [(1, 1)]), [(-3, 1)]), (-12, 1))
        self.assertEqual(bound(grid, box, ([(1, 1)], [(1, 1)]), [(3, 1)]), (194, 1))
        self.assertEqual(bound(grid, box, ([(1, 2)], [(-1, 3)]), [(1, 3)]), (7, 6))

    def test_each_island_has_its_price(self):
        lines = [Line("a", 2, 0, 1, 9), Line("b", 1, 3, 1, 9)]
        units = [Unit("u" + str(bus), bus, 0, 99, 1) for bus in range(5)]
        grid = Grid(5, lines, units, [Load("d" + str(bus), 4 - bus) for bus in range(5)])
        none = [Fraction(0)] * 5
        for prices in itertools.permutations([Fraction(1), Fraction(-10), Fraction(100)]):
            self.assert_bound(grid, ([(1, 2)] * 5, [(3, 4)] * 5), (none, none), prices)
            for k in range(5):
                sizes, outs = [(0, 0)] * 5, [(0, 0)] * 5
                sizes[k] = outs[k] = (5, 8)
                self.assert_bound(grid, (sizes, [(0, 0)] * 5), (none, none), prices)
                self.assert_bound(grid, ([(0, 0)] * 5, outs), (none, none), prices)

    def test_empty_boxes_have_bounds(self):
        grid = Grid(2, [], [Unit("u", 0, 0, 9, 1)], [Load("d", 1)])
        weights, prices = ([Fraction(0)], [Fraction(0)]), [Fraction(-9), Fraction(9)]
        found = self.assert_bound(grid, ([(5, 6)], [(7, 8)]), weights, prices)
        self.assertEqual(found, (-108, 1))

    def test_no_loads_no_units_no_lines(self):
        for buses in (1, 9):
            grid = Grid(buses, [], [], [])
            self.assertEqual(bound(grid, Box([], []), ([], []), [(7, 1)] * buses), (0, 1))
        grid = Grid(1, [], [], [Load("d", 0)])
        self.assertEqual(bound(grid, Box([(2, 3)], []), ([(1, 2)], []), [(0, 1)]), (3, 2))
        grid = Grid(1, [], [Unit("u", 0, 0, 9, 1)], [])
        self.assertEqual(bound(grid, Box([], [(2, 3)]), ([], [(-1, 2)]), [(0, 1)]), (-1, 1))

    def test_ranges_of_one_number(self):
        chance = random.Random(94)
        for grid in made_grids(94, 60):
            sizes = [(n, n) for n in [chance.randint(0, 999) for _ in grid.loads]]
            outs = [(n, n) for n in [chance.randint(unit.low, unit.high) for unit in grid.units]]
            weights = made_weights(chance, grid)
            self.assert_bound(grid, (sizes, outs), weights, self.made_prices(chance, grid, weights))


class Misfits(unittest.TestCase):
    def assert_misfit(self, grid, ranges, weights, prices):
        box, before = Box(*ranges), view(grid)
        given = (list(weights[0]), list(weights[1]), list(prices))
        with self.assertRaises(Misfit):
            bound(grid, box, weights, prices)
        self.assertEqual((weights[0], weights[1], prices), given)
        self.assertEqual((ranges_of(box), view(grid)), ((tuple(ranges[0]), tuple(ranges[1])), before))

    def test_misfits(self):
        chance = random.Random(95)
        for grid in made_grids(95, 45):
            ranges = made_ranges(chance, len(grid.loads)), ranges_in(chance, grid.units)
            weights = pairs(made_weights(chance, grid))
            prices = [(1, 2)] * len(island_lists(grid))
            for wrong in misfits(grid):
                self.assert_misfit(grid, wrong, weights, prices)
            for wrong in wrong_numbers(*weights, (0, 1)):
                self.assert_misfit(grid, ranges, wrong, prices)
            for many in range(len(prices) + 3):
                if many != len(prices):
                    self.assert_misfit(grid, ranges, weights, [(0, 1)] * many)
            self.assert_misfit(grid, misfits(grid)[0], wrong_numbers(*weights, (0, 1))[0], prices + [(0, 1)])

    def test_a_price_for_each_bus_is_too_many(self):
        grid = Grid(3, [Line("a", 0, 2, 1, 1)], [], [])
        self.assertEqual(bound(grid, Box([], []), ([], []), [(5, 1), (6, 1)]), (0, 1))
        for many in (0, 1, 3):
            self.assert_misfit(grid, ([], []), ([], []), [(0, 1)] * many)
