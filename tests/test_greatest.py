import itertools
import random
import unittest
from fractions import Fraction

from lampward.box.boxes import Box
from lampward.errors import EmptyBox, Misfit
from lampward.net.grid import Grid, Line, Load, Unit
from lampward.worst.greatest import greatest
from tests.helpers import (
    assert_fraction, at_island, differences, even_numbers, even_points_of, island_lists, made_grids, made_ranges,
    made_weights, misfits, pair, pairs, ranges_in, ranges_of, slow_bound, slow_sum, small_box, small_grid, value, view,
    wrong_numbers,
)


def is_empty(grid, sizes, outs):
    for island in island_lists(grid):
        rows = [sizes[k] for k in at_island(grid.loads, island)]
        others = [outs[k] for k in at_island(grid.units, island)]
        if sum(low for low, _ in rows) > sum(high for _, high in others):
            return True
        if sum(low for low, _ in others) > sum(high for _, high in rows):
            return True
    return False


def filled_boxes(seed, many):
    """Grids with boxes that are not empty."""
    chance = random.Random(seed)
    for made in made_grids(seed, many):
        units = [Unit(unit.name, unit.bus, 0, 999, 1) for unit in made.units]
        grid = Grid(made.buses, made.lines, units, made.loads)
        sizes, outs = even_numbers(chance, grid, 0, 300)
        if all(0 <= number <= 999 for number in sizes + outs):
            rows = [(chance.randint(0, n), chance.randint(n, 999)) for n in sizes]
            others = [(chance.randint(0, n), chance.randint(n, 999)) for n in outs]
            yield grid, rows, others


class GreatestTest(unittest.TestCase):
    def assert_right(self, grid, sizes, outs, weights):
        """A point with this sum, and prices with this bound: so there is no greater sum."""
        box, before, given = Box(sizes, outs), view(grid), pairs(weights)
        found = greatest(grid, box, given)
        self.assertIs(type(found), tuple)
        best, prices, rows, others = found
        assert_fraction(self, best, value(best))
        self.assert_point(grid, sizes, outs, rows, others)
        self.assertEqual(value(best), slow_sum(weights, rows, others))
        self.assert_prices(grid, weights, prices)
        self.assertEqual(value(best), slow_bound(grid, sizes, outs, weights, [value(price) for price in prices]))
        kept = (best, list(prices), list(rows), list(others))
        for numbers in (prices, rows, others):
            self.assertIs(type(numbers), list)
            numbers.append("X")
            numbers.reverse()
        self.assertEqual((given, view(grid)), (pairs(weights), before))
        self.assertEqual(ranges_of(box), (tuple(sizes), tuple(outs)))
        self.assertEqual(greatest(grid, box, given), kept)
        return value(best)

    def assert_point(self, grid, sizes, outs, rows, others):
        self.assertEqual((len(rows), len(others)), (len(sizes), len(outs)))
        for number, (low, high) in zip(rows + others, sizes + outs):
            self.assertIs(type(number), int)
            self.assertTrue(low <= number <= high)
        self.assertFalse(any(differences(grid, rows, others)))

    def assert_prices(self, grid, weights, prices):
        self.assertEqual(len(prices), len(island_lists(grid)))
        for price, island in zip(prices, island_lists(grid)):
            assert_fraction(self, price, value(price))
            own = [weights[0][k] for k in at_island(grid.loads, island)]
            own += [-weights[1][k] for k in at_island(grid.units, island)]
            self.assertIn(value(price), own or [Fraction(0)])


class Greatest(GreatestTest):
    def test_small_boxes(self):
        """Held against all even points, gone through one by one."""
        chance = random.Random(101)
        many = 0
        for k in range(500):
            grid = small_grid(chance)
            sizes, outs = small_box(chance, grid)
            points = even_points_of(grid, sizes, outs)
            if points:
                many += len(points)
                weights = made_weights(chance, grid, k % 2 == 0)
                best = self.assert_right(grid, sizes, outs, weights)
                self.assertEqual(best, max(slow_sum(weights, *point) for point in points))
        self.assertGreater(many, 1000)

    def test_great_boxes(self):
        chance = random.Random(102)
        many = 0
        for k, (grid, sizes, outs) in enumerate(filled_boxes(102, 300)):
            many += 1
            self.assert_right(grid, sizes, outs, made_weights(chance, grid, k % 2 == 0))
        self.assertGreater(many, 100)

    def test_boxes_of_one_point(self):
        chance = random.Random(103)
        for grid, sizes, outs in filled_boxes(103, 90):
            weights = made_weights(chance, grid)
            _, _, rows, others = greatest(grid, Box(sizes, outs), pairs(weights))
            ones = [(n, n) for n in rows], [(n, n) for n in others]
            self.assert_right(grid, *ones, weights)
            self.assertEqual(greatest(grid, Box(*ones), pairs(weights))[2:], (rows, others))

    def test_weights_that_are_equal_opposite_or_zero(self):
        lines = [Line("a", 0, 1, 1, 9)]
        units = [Unit("u", 0, 0, 9, 1), Unit("v", 1, 0, 9, 1)]
        grid = Grid(2, lines, units, [Load("d", 0), Load("e", 1)])
        sizes, outs = [(1, 3), (0, 4)], [(0, 3), (2, 5)]
        points = even_points_of(grid, sizes, outs)
        for numbers in itertools.product((-1, 0, 1), repeat=4):
            weights = [Fraction(n) for n in numbers[:2]], [Fraction(n) for n in numbers[2:]]
            best = self.assert_right(grid, sizes, outs, weights)
            self.assertEqual(best, max(slow_sum(weights, *point) for point in points))

    def test_all_weights_below_zero(self):
        grid = Grid(1, [], [Unit("u", 0, 0, 99, 1), Unit("v", 0, 0, 99, 1)], [Load("d", 0), Load("e", 0)])
        sizes, outs = [(5, 9), (6, 9)], [(3, 20), (4, 20)]
        weights = [Fraction(-1), Fraction(-2)], [Fraction(-3), Fraction(-4)]
        self.assertEqual(self.assert_right(grid, sizes, outs, weights), -17 - 7 * 3 - 4 * 4)
        weights = [Fraction(-2), Fraction(-1)], [Fraction(-1), Fraction(-4)]
        self.assertEqual(self.assert_right(grid, sizes, outs, weights), -16 - 7 - 16)

    def test_known_ones(self):
        grid = Grid(1, [], [Unit("u", 0, 0, 99, 1), Unit("v", 0, 0, 99, 1)], [Load("d", 0), Load("e", 0)])
        for weights, best, sizes, outs in (
            (([10, 1], [0, 0]), 109, [10, 9], [9, 10]),
            (([10, 1], [-2, -3]), 75, [10, 2], [9, 3]),
            (([1, 10], [-2, -9]), 57, [2, 10], [9, 3]),
            (([3, 2], [0, 1]), 58, [10, 9], [9, 10]),
        ):
            exact = tuple([Fraction(n) for n in numbers] for numbers in weights)
            found = self.assert_right(grid, [(2, 10), (2, 10)], [(3, 9), (3, 10)], exact)
            self.assertEqual(found, best)
            _, _, rows, others = greatest(grid, Box([(2, 10), (2, 10)], [(3, 9), (3, 10)]), pairs(exact))
            self.assertEqual((rows, others), (sizes, outs))

    def test_several_islands(self):
        lines = [Line("a", 2, 0, 1, 9), Line("b", 1, 3, 1, 9)]
        units = [Unit("u", 2, 0, 9, 1), Unit("v", 3, 0, 9, 1)]
        grid = Grid(5, lines, units, [Load("d", 0), Load("e", 1)])
        weights = [Fraction(3), Fraction(-5)], [Fraction(-1, 2), Fraction(4)]
        self.assertEqual(self.assert_right(grid, [(0, 7), (2, 7)], [(0, 9), (1, 9)], weights), Fraction(35, 2) - 2)
        self.assertEqual(greatest(grid, Box([(0, 7), (2, 7)], [(0, 9), (1, 9)]), pairs(weights))[1][2], (0, 1))

    def test_no_loads_no_units_no_lines(self):
        for buses in (1, 9):
            grid = Grid(buses, [], [], [])
            self.assertEqual(greatest(grid, Box([], []), ([], [])), ((0, 1), [(0, 1)] * buses, [], []))
        grid = Grid(2, [], [], [Load("d", 1), Load("e", 1)])
        self.assertEqual(self.assert_right(grid, [(0, 9), (0, 9)], [], ([Fraction(1), Fraction(2)], [])), 0)
        grid = Grid(2, [], [Unit("u", 1, 0, 9, 1), Unit("v", 1, 0, 9, 1)], [])
        self.assertEqual(self.assert_right(grid, [], [(0, 9), (0, 9)], ([], [Fraction(1), Fraction(2)])), 0)

    def test_what_is_given_may_be_changed(self):
        chance = random.Random(104)
        for grid, sizes, outs in filled_boxes(104, 45):
            box, weights = Box(sizes, outs), pairs(made_weights(chance, grid))
            found = greatest(grid, box, weights)
            kept = (found[0], list(found[1]), list(found[2]), list(found[3]))
            for numbers in (weights[0], weights[1], box.sizes, box.outs):
                numbers.append("X")
                numbers.reverse()
            self.assertEqual(found, kept)


class Errors(unittest.TestCase):
    def assert_raises(self, error, grid, ranges, weights):
        box, before = Box(*ranges), view(grid)
        given = (list(weights[0]), list(weights[1]))
        with self.assertRaises(error):
            greatest(grid, box, weights)
        self.assertEqual((weights[0], weights[1]), given)
        self.assertEqual((ranges_of(box), view(grid)), ((tuple(ranges[0]), tuple(ranges[1])), before))

    def test_misfit(self):
        for grid in made_grids(105, 60):
            weights = [(1, 2)] * len(grid.loads), [(-1, 3)] * len(grid.units)
            ranges = [(0, 999)] * len(grid.loads), [(unit.low, unit.high) for unit in grid.units]
            for wrong in misfits(grid):
                self.assert_raises(Misfit, grid, wrong, weights)
                self.assert_raises(Misfit, grid, wrong, wrong_numbers(*weights, (0, 1))[0])
            for wrong in wrong_numbers(*weights, (0, 1)):
                self.assert_raises(Misfit, grid, ranges, wrong)

    def test_misfit_comes_before_empty(self):
        grid = Grid(1, [], [Unit("u", 0, 2, 5, 1)], [Load("d", 0)])
        weights = [(1, 1)], [(1, 1)]
        self.assert_raises(EmptyBox, grid, ([(9, 9)], [(2, 5)]), weights)
        for ranges in (([(9, 9)], [(2, 6)]), ([(9, 9)], [(1, 1)]), ([(9, 9), (0, 0)], [(2, 5)]), ([(9, 9)], [])):
            self.assert_raises(Misfit, grid, ranges, weights)
        for wrong in wrong_numbers(*weights, (0, 1)):
            self.assert_raises(Misfit, grid, ([(9, 9)], [(2, 5)]), wrong)

    def test_empty_boxes(self):
        chance = random.Random(106)
        seen = {True: 0, False: 0}
        for grid in made_grids(106, 180):
            ranges = made_ranges(chance, len(grid.loads)), ranges_in(chance, grid.units)
            weights = [(1, 2)] * len(grid.loads), [(-1, 3)] * len(grid.units)
            empty = is_empty(grid, *ranges)
            seen[empty] += 1
            if empty:
                self.assert_raises(EmptyBox, grid, ranges, weights)
            else:
                greatest(grid, Box(*ranges), weights)
        self.assertGreater(min(seen.values()), 10)

    def test_both_reasons_in_each_island(self):
        lines = [Line("a", 2, 0, 1, 9), Line("b", 1, 3, 1, 9)]
        units = [Unit("u" + str(bus), bus, 2, 8, 1) for bus in range(4)]
        grid = Grid(4, lines, units, [Load("d" + str(bus), bus) for bus in range(4)])
        weights = [(1, 2)] * 4, [(1, 1)] * 4
        for bus in range(4):
            for low, is_wrong in ((8, False), (9, True)):
                sizes = [(8, 999)] * 4
                sizes[bus] = (low, 999)
                self.assert_empty_if(is_wrong, grid, (sizes, [(2, 8)] * 4), weights)
            for high, is_wrong in ((2, False), (1, True)):
                sizes = [(0, 2)] * 4
                sizes[bus] = (0, high)
                self.assert_empty_if(is_wrong, grid, (sizes, [(2, 8)] * 4), weights)

    def assert_empty_if(self, is_wrong, grid, ranges, weights):
        if is_wrong:
            self.assert_raises(EmptyBox, grid, ranges, weights)
        else:
            self.assertEqual(len(greatest(grid, Box(*ranges), weights)), 4)
