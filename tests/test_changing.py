import itertools
import math
import random
import unittest
from fractions import Fraction

from lampward.box.boxes import Box, fits
from lampward.box.changing import draw_in, widen
from lampward.errors import Misfit, Outside
from lampward.net.grid import Grid, Load, Unit
from tests.helpers import made_grids, made_ranges, misfits, ranges_in, ranges_of, view, wrong_numbers


def moved(row, move, least, most):
    """The range with both ends moved away from each other, but not beyond these bounds."""
    low, high = row
    return (low - move if low - move >= least else least, high + move if high + move <= most else most)


class Widen(unittest.TestCase):
    def assert_widened(self, grid, sizes, outs, rates, steps):
        box, before = Box(sizes, outs), view(grid)
        given = (list(rates[0]), list(rates[1]))
        found = widen(grid, box, rates, steps)
        expected = (
            tuple(moved(row, rate * steps, 0, 999) for row, rate in zip(sizes, rates[0])),
            tuple(moved(row, rate * steps, unit.low, unit.high) for row, rate, unit in zip(outs, rates[1], grid.units)),
        )
        self.assertIsInstance(found, Box)
        self.assertEqual(ranges_of(found), expected)
        self.assertIs(fits(grid, found), True)
        found.sizes.append("X")
        found.outs.insert(0, "X")
        self.assertEqual((ranges_of(box), rates, view(grid)), ((tuple(sizes), tuple(outs)), given, before))
        self.assertEqual(ranges_of(widen(grid, box, rates, steps)), expected)

    def test_made_boxes(self):
        chance = random.Random(41)
        for grid in made_grids(41, 180):
            sizes, outs = made_ranges(chance, len(grid.loads)), ranges_in(chance, grid.units)
            for most, steps in ((9, 3), (50, 1), (999, 1), (3, 100), (999, 999), (0, 5)):
                rates = ([chance.randint(0, most) for _ in sizes], [chance.randint(0, most) for _ in outs])
                self.assert_widened(grid, sizes, outs, rates, steps)

    def test_no_steps(self):
        for grid in made_grids(42, 60):
            sizes, outs = made_ranges(random.Random(42), len(grid.loads)), ranges_in(random.Random(43), grid.units)
            rates = ([999] * len(sizes), [7] * len(outs))
            self.assert_widened(grid, sizes, outs, rates, 0)
            box = Box(sizes, outs)
            found = widen(grid, box, rates, 0)
            self.assertEqual(found, box)
            found.sizes.append("X")
            found.outs.append("X")
            self.assertEqual(box, Box(sizes, outs))

    def test_ends(self):
        grid = Grid(1, [], [Unit("u", 0, 10, 20, 1)], [Load("d", 0)])
        for rate, steps in ((0, 0), (0, 999), (1, 1), (1, 5), (5, 1), (2, 3), (1, 999), (999, 0), (999, 1), (999, 999)):
            for size in ((0, 0), (999, 999), (0, 999), (5, 5), (4, 994), (6, 993), (500, 500)):
                for out in ((10, 10), (20, 20), (10, 20), (15, 15), (14, 16), (15, 16), (11, 19)):
                    self.assert_widened(grid, [size], [out], ([rate], [0]), steps)
                    self.assert_widened(grid, [size], [out], ([0], [rate]), steps)
                    self.assert_widened(grid, [size], [out], ([rate], [rate]), steps)

    def test_known_ones(self):
        units = [Unit("u", 0, 10, 90, 1), Unit("v", 0, 0, 999, 1), Unit("w", 0, 5, 5, 1)]
        grid = Grid(1, [], units, [Load("d", 0), Load("e", 0)])
        box = Box([(5, 8), (990, 998)], [(20, 30), (7, 7), (5, 5)])
        found = widen(grid, box, ([1, 3], [2, 0, 999]), 4)
        self.assertEqual(found, Box([(1, 12), (978, 999)], [(12, 38), (7, 7), (5, 5)]))
        found = widen(grid, box, ([2, 1], [3, 1, 4]), 4)
        self.assertEqual(found, Box([(0, 16), (986, 999)], [(10, 42), (3, 11), (5, 5)]))

    def test_empty_boxes_and_grids(self):
        grid = Grid(1, [], [Unit("u", 0, 0, 9, 1)], [Load("d", 0)])
        self.assert_widened(grid, [(50, 60)], [(1, 2)], ([1], [1]), 3)
        for buses in (1, 2, 9):
            self.assert_widened(Grid(buses, [], [], []), [], [], ([], []), 999)
        self.assert_widened(Grid(1, [], [], [Load("d", 0)]), [(3, 4)], [], ([2], []), 1)
        self.assert_widened(Grid(1, [], [Unit("u", 0, 1, 9, 1)], []), [], [(3, 4)], ([], [2]), 1)

    def test_step_by_step(self):
        chance = random.Random(44)
        for grid in made_grids(44, 40):
            sizes, outs = made_ranges(chance, len(grid.loads)), ranges_in(chance, grid.units)
            rates = ([chance.randint(0, 40) for _ in sizes], [chance.randint(0, 40) for _ in outs])
            box = Box(sizes, outs)
            for steps in range(1, 8):
                box = widen(grid, box, rates, 1)
                self.assertEqual(widen(grid, Box(sizes, outs), rates, steps), box)

    def test_rates_that_are_changed_afterwards(self):
        grid = Grid(1, [], [Unit("u", 0, 0, 99, 1)], [Load("d", 0)])
        box, rates = Box([(5, 6)], [(7, 8)]), ([1], [2])
        found = widen(grid, box, rates, 2)
        rates[0].append(5)
        rates[1].clear()
        box.sizes[0] = (0, 0)
        self.assertEqual(found, Box([(3, 8)], [(3, 12)]))

    def test_misfit(self):
        for grid in made_grids(45, 60):
            rates = ([1] * len(grid.loads), [1] * len(grid.units))
            for sizes, outs in misfits(grid):
                self.assert_misfit(grid, sizes, outs, rates)
            sizes, outs = [(3, 5)] * len(grid.loads), [(unit.low, unit.high) for unit in grid.units]
            for wrong in wrong_numbers(*rates, 1):
                self.assert_misfit(grid, sizes, outs, wrong)
            for sizes, outs in misfits(grid):
                for wrong in wrong_numbers(*rates, 1):
                    self.assert_misfit(grid, sizes, outs, wrong)

    def assert_misfit(self, grid, sizes, outs, rates):
        box, before, given = Box(sizes, outs), view(grid), (list(rates[0]), list(rates[1]))
        for steps in (0, 2):
            with self.assertRaises(Misfit):
                widen(grid, box, rates, steps)
        self.assertEqual((ranges_of(box), view(grid)), ((tuple(sizes), tuple(outs)), before))
        self.assertEqual((rates[0], rates[1]), given)

    def test_rates_beyond_their_limits_raise_nothing(self):
        grid = Grid(1, [], [Unit("u", 0, 0, 9, 1)], [Load("d", 0)])
        for rate in (1000, 1005):
            for steps in (0, 1, 1000):
                self.assert_widened(grid, [(5, 5)], [(5, 5)], ([rate], [rate]), steps)
        for rate, steps in ((-1, 1), (1, -1), (-1, 0)):
            found = widen(grid, Box([(490, 510)], [(1, 8)]), ([rate], [rate]), steps)
            self.assertIs(found.holds([500], [5]), True)


class DrawIn(unittest.TestCase):
    def assert_drawn(self, sizes, outs, point, k, n):
        box, given = Box(sizes, outs), (list(point[0]), list(point[1]))
        found = draw_in(box, point[0], point[1], k, n)
        self.assertIsInstance(found, Box)
        for rows, ranges, numbers in zip(ranges_of(found), (sizes, outs), given):
            self.assertEqual(len(rows), len(ranges))
            for row, (low, high), number in zip(rows, ranges, numbers):
                least = math.ceil(number - Fraction((number - low) * k, n))
                most = math.floor(number + Fraction((high - number) * k, n))
                self.assertEqual(row, (least, most))
        kept = ranges_of(found)
        found.sizes.append("X")
        found.outs.insert(0, "X")
        self.assertEqual((ranges_of(box), (point[0], point[1])), ((tuple(sizes), tuple(outs)), given))
        self.assertEqual(ranges_of(draw_in(box, point[0], point[1], k, n)), kept)
        return kept

    def test_short_ranges(self):
        for low, high in itertools.combinations_with_replacement(range(6), 2):
            for number in range(low, high + 1):
                for n in range(1, 8):
                    for k in range(n + 1):
                        self.assert_drawn([(low, high)], [], ([number], []), k, n)
                        self.assert_drawn([], [(low, high)], ([], [number]), k, n)

    def test_made_boxes(self):
        chance = random.Random(46)
        for many in range(7):
            for others in range(7):
                for n in (1, 2, 3, 7, 100, 998, 999):
                    sizes, outs = made_ranges(chance, many), made_ranges(chance, others)
                    point = ([chance.randint(*row) for row in sizes], [chance.randint(*row) for row in outs])
                    for k in (0, 1, n // 2, n - 1, n, chance.randint(0, n)):
                        self.assert_drawn(sizes, outs, point, k, n)

    def test_no_parts_and_all_parts(self):
        chance = random.Random(47)
        for n in (1, 2, 9, 999):
            sizes, outs = made_ranges(chance, 5), made_ranges(chance, 4)
            box = Box(sizes, outs)
            points = [[[row[at] for row in rows] for rows in (sizes, outs)] for at in (0, 1)]
            points.append([[chance.randint(*row) for row in rows] for rows in (sizes, outs)])
            for point in points:
                self.assertEqual(draw_in(box, *point, n, n), box)
                alone = Box([(number, number) for number in point[0]], [(number, number) for number in point[1]])
                self.assertEqual(draw_in(box, *point, 0, n), alone)

    def test_an_equal_box_is_another_one(self):
        box = Box([(1, 5)], [(2, 6)])
        for k in (0, 1):
            found = draw_in(box, [3], [4], k, 1)
            found.sizes.append("X")
            found.outs.append("X")
            self.assertEqual(box, Box([(1, 5)], [(2, 6)]))

    def test_known_ones(self):
        box = Box([(0, 10), (3, 3)], [(1, 999)])
        self.assertEqual(draw_in(box, [4, 3], [7], 1, 3), Box([(3, 6), (3, 3)], [(5, 337)]))
        self.assertEqual(draw_in(box, [4, 3], [7], 2, 3), Box([(2, 8), (3, 3)], [(3, 668)]))
        self.assertEqual(draw_in(box, [0, 3], [999], 1, 2), Box([(0, 5), (3, 3)], [(500, 999)]))
        self.assertEqual(draw_in(box, [10, 3], [1], 1, 2), Box([(5, 10), (3, 3)], [(1, 500)]))

    def test_more_parts_make_wider_boxes(self):
        sizes, outs, point = [(0, 999), (17, 40)], [(3, 800)], ([313, 17], [799])
        rows = [self.assert_drawn(sizes, outs, point, k, 50) for k in range(51)]
        for inner, outer in zip(rows, rows[1:]):
            for row, other in zip(inner[0] + inner[1], outer[0] + outer[1]):
                self.assertTrue(other[0] <= row[0] and row[1] <= other[1])

    def test_no_ranges(self):
        for k in range(4):
            self.assertEqual(draw_in(Box([], []), [], [], k, 3), Box([], []))

    def assert_outside(self, sizes, outs, point, k, n):
        box, given = Box(sizes, outs), (list(point[0]), list(point[1]))
        with self.assertRaises(Outside):
            draw_in(box, point[0], point[1], k, n)
        self.assertEqual((ranges_of(box), (point[0], point[1])), ((tuple(sizes), tuple(outs)), given))

    def test_outside(self):
        sizes, outs = [(1, 5), (3, 3)], [(2, 6), (0, 999)]
        for place in range(4):
            low, high = (sizes + outs)[place]
            for number in (low - 1, high + 1, -low - 1, high + 1000, -(10 ** 59), 10 ** 59):
                numbers = [1, 3, 6, 500]
                numbers[place] = number
                for k, n in ((0, 1), (1, 1), (0, 999), (999, 999), (3, 7)):
                    self.assert_outside(sizes, outs, (numbers[:2], numbers[2:]), k, n)
        for wrong in wrong_numbers([1, 3], [2, 0], 3):
            for k in (0, 1, 2):
                self.assert_outside(sizes, outs, wrong, k, 2)
        self.assert_outside([], [], ([0], []), 1, 1)
        self.assert_outside([], [], ([], [0]), 0, 1)

    def test_parts_beyond_their_limits_raise_nothing(self):
        for k in (0, 1, 500, 1000):
            self.assert_drawn([(0, 9)], [(0, 999)], ([3], [999]), k, 1000)
        for k, n in ((3, 2), (2, 1), (1000, 999)):
            found = draw_in(Box([(490, 510)], [(5, 5)]), [500], [5], k, n)
            self.assertIs(found.holds([500], [5]), True)
