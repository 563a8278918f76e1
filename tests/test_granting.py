import random
import unittest
from fractions import Fraction

from lampward.box.boxes import Box
from lampward.errors import EmptyBox, Misfit
from lampward.grant.granting import Refusal, grant
from lampward.grant.watches import watches
from lampward.loss.harms import harmless, harms
from lampward.net.grid import Grid, Line, Load, Unit
from tests.helpers import (
    assert_fraction, differences, even_points_of, made_grids, misfits, point_within, ranges_around, ranges_of,
    small_box, small_grid, sturdy_grid, value, view,
)


def fields(refusal):
    """All fields of a refusal, as values that nothing else changes, or None."""
    if refusal is None:
        return None
    place = (refusal.case, refusal.kind, refusal.place, refusal.most, refusal.value)
    return place + (tuple(refusal.sizes), tuple(refusal.outs))


def exact_sum(watch, sizes, outs):
    weights = [value(weight) for weight in watch.weights[0] + watch.weights[1]]
    return sum((weight * number for weight, number in zip(weights, sizes + outs)), Fraction(0))


def drawn_boxes(seed, many):
    """Grids with ranges of boxes that are not empty, and with all their even points."""
    chance = random.Random(seed)
    for k in range(many):
        if k % 3 == 0:
            grid = small_grid(chance)
            sizes, outs = small_box(chance, grid)
        else:
            grid = sturdy_grid(chance)
            sizes, outs = ranges_around(chance, grid, *point_within(chance, grid))
        points = even_points_of(grid, sizes, outs)
        if points:
            yield grid, sizes, outs, points


def pairs_of_points(sizes, outs):
    return [(n, n) for n in sizes], [(n, n) for n in outs]


class GrantTest(unittest.TestCase):
    def assert_refused_rightly(self, grid, sizes, outs, refusal, points):
        """The refusal tells the first watch that a point breaks, its greatest sum, and a point that has it."""
        self.assertIsInstance(refusal, Refusal)
        best, first = None, None
        for first in watches(grid):
            best = max(exact_sum(first, *point) for point in points)
            if best > first.most:
                break
        self.assertGreater(best, first.most)
        found = (refusal.case, refusal.kind, refusal.place, refusal.most)
        self.assertEqual(found, (first.case, first.kind, first.place, first.most))
        assert_fraction(self, refusal.value, best)
        self.assertEqual(exact_sum(first, refusal.sizes, refusal.outs), best)
        self.assertIn((refusal.sizes, refusal.outs), points)
        self.assertNotEqual(harms(grid, refusal.case, refusal.sizes, refusal.outs), [])

    def asked(self, grid, sizes, outs):
        """What grant returns, twice, with nothing changed by it."""
        box, before = Box(sizes, outs), view(grid)
        found = grant(grid, box)
        kept = fields(found)
        if found is not None:
            for numbers in (found.sizes, found.outs):
                self.assertIs(type(numbers), list)
                numbers.append("X")
                numbers.reverse()
        again = grant(grid, box)
        self.assertEqual(fields(again), kept)
        self.assertEqual((ranges_of(box), view(grid)), ((tuple(sizes), tuple(outs)), before))
        return again


class SmallBoxes(GrantTest):
    def test_against_all_points(self):
        seen = {True: 0, False: 0}
        for grid, sizes, outs, points in drawn_boxes(201, 200):
            refusal = self.asked(grid, sizes, outs)
            is_sound = all(harmless(grid, *point) for point in points)
            self.assertEqual(refusal is None, is_sound)
            if len(points) > 1:
                seen[is_sound] += 1
            if refusal is not None:
                self.assert_refused_rightly(grid, sizes, outs, refusal, points)
        self.assertGreater(min(seen.values()), 30)

    def test_boxes_of_one_point(self):
        chance = random.Random(202)
        seen = {True: 0, False: 0}
        for grid, _, _, points in drawn_boxes(202, 120):
            for point in chance.sample(points, min(3, len(points))):
                refusal = self.asked(grid, *pairs_of_points(*point))
                seen[refusal is None] += 1
                self.assertEqual(refusal is None, harmless(grid, *point))
                if refusal is not None:
                    self.assert_refused_rightly(grid, *pairs_of_points(*point), refusal, [point])
        self.assertGreater(min(seen.values()), 50)

    def test_boxes_within_granted_and_refused_ones(self):
        chance = random.Random(203)
        seen = {True: 0, False: 0}
        for grid, sizes, outs, points in drawn_boxes(203, 120):
            is_granted = grant(grid, Box(sizes, outs)) is None
            for _ in range(4):
                inner = [self.within(chance, rows) for rows in (sizes, outs)]
                if not any(Box(*inner).holds(*point) for point in points):
                    continue
                seen[is_granted] += 1
                if grant(grid, Box(*inner)) is not None:
                    self.assertFalse(is_granted)
        self.assertGreater(min(seen.values()), 60)

    def within(self, chance, rows):
        found = []
        for low, high in rows:
            start = chance.randint(low, high)
            found.append((start, chance.randint(start, high)))
        return found


class GreatBoxes(GrantTest):
    def great(self, seed, many):
        """Grids of all sizes whose units bear much, with wide ranges."""
        chance = random.Random(seed)
        for made in made_grids(seed, many):
            units = [Unit(unit.name, unit.bus, 0, 999, chance.randint(1, 9)) for unit in made.units]
            lines = [Line(line.name, line.a, line.b, line.ease, chance.randint(500, 9999)) for line in made.lines]
            grid = Grid(made.buses, lines, units, made.loads)
            sizes, outs = point_within(chance, grid, 0, chance.choice([9, 90, 500]))
            if any(differences(grid, sizes, outs)):
                continue
            if all(n <= 999 for n in sizes):
                yield grid, sizes, outs, ranges_around(chance, grid, sizes, outs, chance.choice([1, 30, 400]))

    def test_points_that_are_drawn(self):
        chance = random.Random(204)
        seen = {True: 0, False: 0}
        for grid, sizes, outs, ranges in self.great(205, 120):
            refusal = self.asked(grid, *ranges)
            seen[refusal is None] += 1
            if refusal is None:
                self.assertTrue(harmless(grid, sizes, outs))
                for _ in range(3):
                    point = self.drawn_point(chance, grid, ranges, sizes, outs)
                    self.assertTrue(harmless(grid, *point))
            else:
                self.assertFalse(any(differences(grid, refusal.sizes, refusal.outs)))
                self.assertTrue(Box(*ranges).holds(refusal.sizes, refusal.outs))
                self.assertNotEqual(harms(grid, refusal.case, refusal.sizes, refusal.outs), [])
                found = [watch for watch in watches(grid) if (watch.case, watch.kind, watch.place, watch.most) == (
                    refusal.case, refusal.kind, refusal.place, refusal.most)]
                self.assertEqual(exact_sum(found[0], refusal.sizes, refusal.outs), value(refusal.value))
                self.assertGreater(value(refusal.value), refusal.most)
        self.assertGreater(min(seen.values()), 15)

    def drawn_point(self, chance, grid, ranges, sizes, outs):
        """Another even point: a load and a unit of one island change by the same, or two units against each other."""
        numbers, many = sizes + outs, len(sizes)
        rows, parts = ranges[0] + ranges[1], grid.loads + grid.units
        for _ in range(20):
            if len(parts) < 2:
                break
            a, b = chance.sample(range(len(parts)), 2)
            step = chance.choice([1, 5, 50])
            changed = list(numbers)
            changed[a] += step
            changed[b] += step if (a < many) != (b < many) else -step
            is_within = all(low <= n <= high for n, (low, high) in zip(changed, rows))
            if is_within and not any(differences(grid, changed[:many], changed[many:])):
                numbers = changed
        return numbers[:many], numbers[many:]


class Edges(GrantTest):
    def test_greatest_sums_that_are_equal_to_the_most(self):
        """Two lines carry up to 12, one alone up to 12 after the loss of the other."""
        for limit, is_granted in ((11, False), (12, True), (13, True)):
            lines = [Line("a", 0, 1, 1, limit), Line("b", 0, 1, 1, limit)]
            units = [Unit("u", 0, 0, 12, 1), Unit("v", 0, 0, 12, 1)]
            grid = Grid(2, lines, units, [Load("d", 1)])
            refusal = self.asked(grid, [(0, 12)], [(0, 6), (0, 6)])
            self.assertEqual(refusal is None, is_granted)
            if refusal is not None:
                self.assertEqual(fields(refusal), ("a", "forth", "b", 11, (12, 1), (12,), (6, 6)))

    def test_above_by_less_than_one(self):
        """Of the two lines, or of those that are left, the first one carries a third."""
        units = [Unit("u", 0, 0, 999, 1), Unit("v", 0, 0, 999, 1)]
        parts = [Line("a", 0, 1, 1, 6), Line("b", 0, 1, 2, 13), Line("c", 0, 1, 2, 13)]
        for size, is_granted in ((18, True), (19, False)):
            found = self.asked(Grid(2, parts, units, [Load("d", 1)]), [(0, size)], [(0, 400), (0, 400)])
            self.assertEqual(found is None, is_granted)
            if not is_granted:
                self.assertEqual(fields(found)[:5], ("b", "forth", "a", 6, (19, 3)))

    def test_backwards(self):
        lines = [Line("a", 1, 0, 1, 11), Line("b", 1, 0, 1, 12)]
        units = [Unit("u", 0, 0, 12, 1), Unit("v", 0, 0, 12, 1)]
        found = self.asked(Grid(2, lines, units, [Load("d", 1)]), [(0, 12)], [(0, 6), (0, 6)])
        self.assertEqual(fields(found)[:5], ("b", "back", "a", 11, (12, 1)))

    def test_ranges_after_a_loss(self):
        units = [Unit("u", 0, 0, 10, 1), Unit("v", 0, 2, 10, 0), Unit("w", 0, 0, 9, 1)]
        grid = Grid(1, [], units, [Load("d", 0)])
        self.assertIsNone(self.asked(grid, [(2, 11)], [(0, 8), (2, 2), (0, 8)]))
        found = self.asked(grid, [(2, 12)], [(0, 8), (2, 2), (0, 8)])
        self.assertEqual(fields(found)[:5], ("u", "high", "w", 9, (10, 1)))
        units = [Unit("u", 0, 5, 99, 1), Unit("v", 1, 0, 99, 1)]
        grid = Grid(2, [Line("a", 0, 1, 1, 99)], units, [Load("d", 0), Load("e", 1)])
        self.assertIsNone(self.asked(grid, [(5, 6), (6, 9)], [(5, 9), (0, 99)]))
        found = self.asked(grid, [(3, 6), (6, 9)], [(5, 9), (0, 99)])
        self.assertEqual(fields(found)[:5], ("a", "low", "u", -5, (-3, 1)))

    def test_what_is_left_over(self):
        units = [Unit("u", 0, 0, 10, 0), Unit("v", 0, 0, 10, 1)]
        grid = Grid(1, [], units, [Load("d", 0)])
        self.assertIsNone(self.asked(grid, [(0, 9)], [(0, 9), (0, 0)]))
        found = self.asked(grid, [(0, 9)], [(0, 9), (0, 1)])
        self.assertEqual(fields(found)[:5], ("v", "short", 0, 0, (1, 1)))
        lines = [Line("a", 0, 1, 1, 9)]
        found = self.asked(Grid(2, lines, [Unit("u", 0, 0, 9, 0)], [Load("d", 1)]), [(0, 9)], [(0, 9)])
        self.assertEqual(fields(found)[:5], ("a", "spare", 0, 0, (9, 1)))

    def test_no_lines_no_units_no_loads(self):
        for buses in (1, 9):
            self.assertIsNone(self.asked(Grid(buses, [], [], []), [], []))
        self.assertIsNone(self.asked(Grid(2, [], [], [Load("d", 1)]), [(0, 9)], []))
        self.assertIsNone(self.asked(Grid(2, [Line("a", 0, 1, 1, 0)], [], []), [], []))
        self.assertIsNone(self.asked(Grid(1, [], [Unit("u", 0, 0, 9, 1)], []), [], [(0, 9)]))


class Errors(unittest.TestCase):
    def assert_raises(self, error, grid, ranges):
        box, before = Box(*ranges), view(grid)
        with self.assertRaises(error):
            grant(grid, box)
        self.assertEqual((ranges_of(box), view(grid)), ((tuple(ranges[0]), tuple(ranges[1])), before))

    def test_misfit(self):
        for grid in made_grids(206, 45):
            for wrong in misfits(grid):
                self.assert_raises(Misfit, grid, wrong)

    def test_empty_in_each_island(self):
        units = [Unit("u" + str(bus), bus, 2, 8, 1) for bus in range(3)]
        grid = Grid(3, [], units, [Load("d" + str(bus), bus) for bus in range(3)])
        for bus in range(3):
            for row in ((9, 9), (0, 1)):
                sizes = [(2, 8)] * 3
                sizes[bus] = row
                self.assert_raises(EmptyBox, grid, (sizes, [(2, 8)] * 3))
                self.assert_raises(Misfit, grid, (sizes, [(2, 8)] * 2 + [(2, 9)]))
                self.assert_raises(Misfit, grid, (sizes + [(0, 0)], [(2, 8)] * 3))
