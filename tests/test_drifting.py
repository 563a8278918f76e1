import random
import unittest

from lampward.box.boxes import Box
from lampward.box.changing import widen
from lampward.errors import EmptyBox, Misfit, NotGranted
from lampward.grant.granting import grant
from lampward.loss.harms import harmless
from lampward.net.grid import Grid, Line, Load, Unit
from lampward.reach.drifting import goes, reach
from tests.helpers import (
    differences, even_points_of, made_grids, misfits, point_within, ranges_around, ranges_of, sturdy_grid, view,
    wrong_numbers,
)

LIMITS = (20, 40, 99, 200, 400)


def drawn(seed, many):
    """Grids, ranges of granted boxes, and rates."""
    chance = random.Random(seed)
    for k in range(many):
        grid = sturdy_grid(chance, chance.choice([9, 60, 300]), LIMITS)
        ranges = ranges_around(chance, grid, *point_within(chance, grid, 0, 5), 1)
        if grant(grid, Box(*ranges)) is None:
            top = chance.choice([1, 3, 3, 30])
            rates = [chance.randint(0, top) for _ in grid.loads], [chance.randint(0, top) for _ in grid.units]
            yield grid, ranges, rates


class Goes(unittest.TestCase):
    def test_each_number_keeps_its_rate(self):
        rates = [2, 0], [1, 999]
        first = [10, 10], [10, 0]
        for second, expected in (
            (([10, 10], [10, 0]), True),
            (([12, 10], [9, 999]), True),
            (([8, 10], [11, 500]), True),
            (([13, 10], [10, 0]), False),
            (([7, 10], [10, 0]), False),
            (([10, 11], [10, 0]), False),
            (([10, 9], [10, 0]), False),
            (([10, 10], [12, 0]), False),
            (([10, 10], [8, 0]), False),
            (([10, 10], [10, 1000]), False),
            (([10, 10], [10, -1]), True),
        ):
            given = [list(first[0]), list(first[1])], [list(second[0]), list(second[1])], [list(n) for n in rates]
            self.assertIs(goes(rates, first, second), expected)
            self.assertIs(goes(rates, second, first), expected)
            self.assertEqual(([list(n) for n in first], [list(n) for n in second], [list(n) for n in rates]), given)

    def test_no_numbers(self):
        self.assertIs(goes(([], []), ([], []), ([], [])), True)
        self.assertIs(goes(([1], []), ([5], []), ([7], [])), False)
        self.assertIs(goes(([], [1]), ([], [5]), ([], [6])), True)

    def test_drawn_ones(self):
        chance = random.Random(221)
        seen = {True: 0, False: 0}
        for _ in range(600):
            many, more = chance.randint(0, 3), chance.randint(0, 3)
            rows = [[[chance.randint(-2, 5) for _ in range(n)] for n in (many, more)] for _ in range(2)]
            rates = [chance.randint(0, 5) for _ in range(many)], [chance.randint(0, 5) for _ in range(more)]
            flat = list(zip(rates[0] + rates[1], rows[0][0] + rows[0][1], rows[1][0] + rows[1][1]))
            expected = not [1 for rate, a, b in flat if a - b > rate or b - a > rate]
            seen[expected] += 1
            self.assertIs(goes(rates, tuple(rows[0]), tuple(rows[1])), expected)
        self.assertGreater(min(seen.values()), 100)


class Reach(unittest.TestCase):
    def asked(self, grid, ranges, rates, most):
        box, given, before = Box(*ranges), (list(rates[0]), list(rates[1])), view(grid)
        found = reach(grid, box, rates, most)
        self.assertIs(type(found), int)
        self.assertEqual((rates[0], rates[1], view(grid)), (given[0], given[1], before))
        self.assertEqual(ranges_of(box), (tuple(ranges[0]), tuple(ranges[1])))
        return found

    def test_step_by_step(self):
        seen = {}
        for grid, ranges, rates in drawn(222, 220):
            most = 12
            found = self.asked(grid, ranges, rates, most)
            box, steps = Box(*ranges), 0
            while steps < most and grant(grid, widen(grid, box, rates, steps + 1)) is None:
                steps += 1
            self.assertEqual(found, steps)
            seen[found] = seen.get(found, 0) + 1
        self.assertGreater(len(seen), 6)
        self.assertGreater(sum(seen[k] for k in seen if 0 < k < 12), 20)

    def test_far_ones(self):
        seen = 0
        for k, (grid, ranges, rates) in enumerate(drawn(223, 160)):
            most = (999, 0, 1, 500)[k % 4]
            box, found = Box(*ranges), self.asked(grid, ranges, rates, most)
            self.assertTrue(0 <= found <= most)
            self.assertIsNone(grant(grid, widen(grid, box, rates, found)))
            if found < most:
                seen += 1
                self.assertIsNotNone(grant(grid, widen(grid, box, rates, found + 1)))
        self.assertGreater(seen, 20)

    def test_walks_of_points(self):
        """Points that go at the rates from a point of the box stay harmless for as many steps as the reach is."""
        chance = random.Random(224)
        many = 0
        for grid, ranges, rates in drawn(224, 150):
            found = self.asked(grid, ranges, rates, 20)
            points = even_points_of(grid, *ranges)
            for _ in range(3):
                point = chance.choice(points)
                for _ in range(min(found, 6)):
                    point = self.stepped(chance, grid, rates, point)
                    many += 1
                    self.assertTrue(harmless(grid, *point))
        self.assertGreater(many, 300)

    def stepped(self, chance, grid, rates, point):
        """An even point to which this one goes, as far away as some tries find it."""
        numbers, many = point[0] + point[1], len(point[0])
        parts, changed = grid.loads + grid.units, list(point[0] + point[1])
        ends = [(0, 999)] * many + [(unit.low, unit.high) for unit in grid.units]
        for _ in range(12):
            a, b = chance.randrange(len(parts)), chance.randrange(len(parts))
            if a == b:
                continue
            other, step = list(changed), chance.choice([1, 2, 9])
            other[a] += step
            other[b] += step if (a < many) != (b < many) else -step
            halves = (other[:many], other[many:])
            is_within = all(low <= n <= high for n, (low, high) in zip(other, ends))
            if is_within and goes(rates, (numbers[:many], numbers[many:]), halves) and not any(
                    differences(grid, *halves)):
                changed = other
        return changed[:many], changed[many:]

    def test_known_ones(self):
        lines = [Line("a", 0, 1, 1, 50), Line("b", 0, 1, 1, 50)]
        units = [Unit("u", 0, 0, 100, 1), Unit("v", 0, 0, 100, 1)]
        grid = Grid(2, lines, units, [Load("d", 1)])
        ranges = [(10, 20)], [(5, 10), (5, 10)]
        for rates, most, found in (
            (([1], [1, 1]), 999, 30), (([1], [1, 1]), 29, 29), (([1], [1, 1]), 30, 30), (([1], [1, 1]), 31, 30),
            (([7], [999, 999]), 999, 4), (([999], [999, 999]), 999, 0), (([1], [1, 1]), 0, 0),
            (([0], [0, 0]), 999, 999), (([0], [999, 999]), 999, 999), (([30], [30, 30]), 999, 1),
            (([31], [31, 31]), 999, 0), (([999], [0, 0]), 999, 999), (([999], [1, 0]), 999, 30),
        ):
            self.assertEqual(self.asked(grid, ranges, rates, most), found)


class Errors(unittest.TestCase):
    def assert_raises(self, error, grid, ranges, rates, most=5):
        box, given, before = Box(*ranges), (list(rates[0]), list(rates[1])), view(grid)
        with self.assertRaises(error):
            reach(grid, box, rates, most)
        self.assertEqual((rates[0], rates[1], view(grid)), (given[0], given[1], before))
        self.assertEqual(ranges_of(box), (tuple(ranges[0]), tuple(ranges[1])))

    def test_misfit(self):
        for grid in made_grids(225, 36):
            rates = [1] * len(grid.loads), [1] * len(grid.units)
            ranges = [(0, 999)] * len(grid.loads), [(unit.low, unit.high) for unit in grid.units]
            for wrong in misfits(grid):
                self.assert_raises(Misfit, grid, wrong, rates)
                self.assert_raises(Misfit, grid, wrong, (rates[0] + [1], rates[1]))
            for wrong in wrong_numbers(*rates, 1):
                self.assert_raises(Misfit, grid, ranges, wrong)

    def test_order(self):
        units = [Unit("u" + str(bus), bus, 2, 8, 1) for bus in range(3)]
        grid = Grid(3, [], units, [Load("d" + str(bus), bus) for bus in range(3)])
        rates, whole = ([1] * 3, [1] * 3), ([(2, 8)] * 3, [(2, 8)] * 3)
        for most in (0, 1, 999):
            self.assert_raises(NotGranted, grid, whole, rates, most)
            self.assert_raises(Misfit, grid, whole, ([1] * 3, [1] * 2), most)
            for bus in range(3):
                sizes = [(2, 8)] * 3
                sizes[bus] = (9, 9)
                self.assert_raises(EmptyBox, grid, (sizes, whole[1]), rates, most)
                self.assert_raises(Misfit, grid, (sizes, whole[1]), ([1] * 4, [1] * 3), most)
                self.assert_raises(Misfit, grid, (sizes, [(2, 9)] * 3), rates, most)

    def test_refused_ones(self):
        chance = random.Random(226)
        many = 0
        for _ in range(60):
            grid = sturdy_grid(chance)
            ranges = ranges_around(chance, grid, *point_within(chance, grid))
            if grant(grid, Box(*ranges)) is not None:
                many += 1
                self.assert_raises(NotGranted, grid, ranges, ([0] * len(grid.loads), [0] * len(grid.units)), 0)
        self.assertGreater(many, 15)
