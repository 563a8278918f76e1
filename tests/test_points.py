import random
import unittest

from lampward.box.boxes import Box
from lampward.box.points import even_point, is_even
from lampward.errors import Misfit
from lampward.net.grid import Grid, Line, Load, Unit
from tests.helpers import (
    at_island, differences, even_numbers, even_points_of, island_lists, made_grids, made_ranges, misfits, ranges_in,
    ranges_of, small_box, small_grid, view, wrong_numbers,
)

BIG = 10 ** 59


def two_islands():
    """A grid with the islands [0, 2] and [1, 3], with two units and two loads in each."""
    lines = [Line("a", 2, 0, 1, 9), Line("b", 1, 3, 1, 9)]
    units = [Unit("u" + str(bus), bus, 2, 8, 1) for bus in range(4)]
    return Grid(4, lines, units, [Load("d" + str(bus), bus) for bus in range(4)])


class IsEven(unittest.TestCase):
    def assert_even(self, expected, grid, sizes, outs):
        before, given = view(grid), (list(sizes), list(outs))
        self.assertIs(is_even(grid, sizes, outs), expected)
        self.assertEqual((view(grid), (sizes, outs)), (before, given))

    def test_made_points(self):
        chance = random.Random(31)
        for grid in made_grids(31, 180):
            sizes, outs = even_numbers(chance, grid)
            self.assert_even(True, grid, sizes, outs)
            for k in range(len(sizes)):
                self.assert_even(False, grid, sizes[:k] + [sizes[k] + chance.choice([-1, 1, 7])] + sizes[k + 1:], outs)
            for k in range(len(outs)):
                self.assert_even(False, grid, sizes, outs[:k] + [outs[k] + chance.choice([-1, 1, 7])] + outs[k + 1:])

    def test_any_points(self):
        chance = random.Random(32)
        for grid in made_grids(32, 90):
            sizes = [chance.randint(-1, 1) for _ in grid.loads]
            outs = [chance.randint(-1, 1) for _ in grid.units]
            self.assert_even(not any(differences(grid, sizes, outs)), grid, sizes, outs)

    def test_each_island_for_itself(self):
        grid = two_islands()
        self.assert_even(True, grid, [1, 2, 3, 4], [4, 6, 0, 0])
        self.assert_even(True, grid, [1, 2, 3, 4], [0, 0, 4, 6])
        self.assert_even(False, grid, [1, 2, 3, 4], [1, 3, 2, 4])
        self.assert_even(False, grid, [1, 2, 3, 4], [5, 5, 0, 0])
        self.assert_even(False, grid, [1, 2, 3, 4], [4, 5, 0, 0])
        self.assert_even(False, grid, [1, 2, 3, 4], [5, 6, 0, 0])
        self.assert_even(True, grid, [0, 0, 0, 0], [0, 0, 0, 0])

    def test_negative_and_great_numbers(self):
        grid = two_islands()
        self.assert_even(True, grid, [-1, 2, -3, 4], [-9, 6, 5, 0])
        self.assert_even(False, grid, [1, 0, 1, 0], [-2, 0, 0, 0])
        self.assert_even(False, grid, [-1, 0, -1, 0], [2, 0, 0, 0])
        self.assert_even(True, grid, [BIG, 0, -BIG, -BIG], [0, -BIG, 0, 0])
        self.assert_even(False, grid, [BIG, 0, 1, 0], [BIG, 0, 0, 0])

    def test_no_loads_no_units_no_lines(self):
        for buses in (1, 2, 9):
            self.assert_even(True, Grid(buses, [], [], []), [], [])
        loads = Grid(2, [], [], [Load("d", 0), Load("e", 0), Load("f", 1)])
        self.assert_even(True, loads, [0, 0, 0], [])
        self.assert_even(True, loads, [-5, 5, 0], [])
        self.assert_even(False, loads, [5, 0, -5], [])
        self.assert_even(False, loads, [0, 0, 1], [])
        units = Grid(2, [], [Unit("u", 1, 0, 9, 1), Unit("v", 1, 0, 9, 1)], [])
        self.assert_even(True, units, [], [0, 0])
        self.assert_even(True, units, [], [-7, 7])
        self.assert_even(False, units, [], [7, 7])

    def test_misfit(self):
        chance = random.Random(33)
        for grid in made_grids(33, 60):
            sizes, outs = even_numbers(chance, grid)
            for few, others in wrong_numbers(sizes, outs, 0):
                given, before = (list(few), list(others)), view(grid)
                with self.assertRaises(Misfit):
                    is_even(grid, few, others)
                self.assertEqual(((few, others), view(grid)), (given, before))

    def test_misfit_though_there_are_as_many_numbers_in_all(self):
        grid = Grid(1, [], [Unit("u", 0, 0, 9, 1)], [Load("d", 0)])
        for sizes, outs in (([], [0, 0]), ([0, 0], []), ([], []), ([1], []), ([], [1]), ([1, 0], [1, 0])):
            with self.assertRaises(Misfit):
                is_even(grid, sizes, outs)


class EvenPoint(unittest.TestCase):
    def assert_found(self, grid, sizes, outs):
        """It returns a point that is even and lies within the ranges, and keeps nothing of it."""
        box, before = Box(sizes, outs), view(grid)
        found = even_point(grid, box)
        self.assertIs(type(found), tuple)
        self.assertEqual(len(found), 2)
        for numbers, ranges in zip(found, (sizes, outs)):
            self.assertIs(type(numbers), list)
            self.assertEqual(len(numbers), len(ranges))
            for number, (low, high) in zip(numbers, ranges):
                self.assertIs(type(number), int)
                self.assertTrue(low <= number <= high)
        self.assertFalse(any(differences(grid, *found)))
        kept = (list(found[0]), list(found[1]))
        for numbers in found:
            numbers.append("X")
            numbers.reverse()
        self.assertEqual(even_point(grid, box), kept)
        self.assertEqual((ranges_of(box), view(grid)), ((tuple(sizes), tuple(outs)), before))

    def assert_empty(self, grid, sizes, outs):
        box, before = Box(sizes, outs), view(grid)
        self.assertIsNone(even_point(grid, box))
        self.assertEqual((ranges_of(box), view(grid)), ((tuple(sizes), tuple(outs)), before))

    def assert_right(self, grid, sizes, outs, is_empty):
        if is_empty:
            self.assert_empty(grid, sizes, outs)
        else:
            self.assert_found(grid, sizes, outs)

    def test_small_boxes(self):
        chance = random.Random(34)
        seen = {True: 0, False: 0}
        for _ in range(400):
            grid = small_grid(chance)
            sizes, outs = small_box(chance, grid)
            is_empty = not even_points_of(grid, sizes, outs)
            self.assert_right(grid, sizes, outs, is_empty)
            seen[is_empty] += 1
        self.assertGreater(min(seen.values()), 50)

    def test_great_boxes(self):
        chance = random.Random(35)
        for grid in made_grids(35, 180):
            sizes, outs = made_ranges(chance, len(grid.loads)), ranges_in(chance, grid.units)
            is_empty = False
            for island in island_lists(grid):
                rows = [sizes[k] for k in at_island(grid.loads, island)]
                others = [outs[k] for k in at_island(grid.units, island)]
                if sum(low for low, _ in rows) > sum(high for _, high in others):
                    is_empty = True
                if sum(low for low, _ in others) > sum(high for _, high in rows):
                    is_empty = True
            self.assert_right(grid, sizes, outs, is_empty)

    def test_boxes_around_a_point(self):
        chance = random.Random(36)
        many = 0
        for made in made_grids(36, 180):
            units = [Unit(unit.name, unit.bus, 0, 999, 1) for unit in made.units]
            grid = Grid(made.buses, made.lines, units, made.loads)
            sizes, outs = even_numbers(chance, grid, 100, 300)
            if all(0 <= number <= 999 for number in sizes + outs):
                many += 1
                self.assert_found(grid, [(n, n) for n in sizes], [(n, n) for n in outs])
                self.assert_found(grid, [(chance.randint(0, n), n) for n in sizes], [(n, 999) for n in outs])
                self.assert_found(grid, [(n, chance.randint(n, 999)) for n in sizes], [(0, n) for n in outs])
        self.assertGreater(many, 50)

    def test_both_reasons_in_each_island(self):
        grid = two_islands()
        for first, second in (((0, 1), (1, 0)), ((2, 3), (3, 2)), ((0, 3), (1, 2)), ((2, 1), (3, 0))):
            for change in (-1, 0, 1):
                sizes, outs = [(4, 5)] * 4, [(4, 5)] * 4
                outs[first[0]], outs[second[0]] = (2, 3), (2, 3)
                sizes[first[1]], sizes[second[1]] = (4, 5 + change), (4, 4)
                self.assert_right(grid, sizes, outs, not even_points_of(grid, sizes, outs))

    def test_the_ends_just_meet(self):
        grid = two_islands()
        full = [(2, 8)] * 4
        for bus in range(4):
            for sizes, is_empty in ((8, False), (9, True)):
                rows = [(8, 999)] * 4
                rows[bus] = (sizes, 999)
                self.assert_right(grid, rows, full, is_empty)
            for sizes, is_empty in ((2, False), (1, True)):
                rows = [(0, 2)] * 4
                rows[bus] = (0, sizes)
                self.assert_right(grid, rows, full, is_empty)

    def test_islands_do_not_help_each_other(self):
        grid = two_islands()
        self.assert_empty(grid, [(0, 0), (8, 8), (0, 0), (8, 8)], [(4, 4)] * 4)
        self.assert_empty(grid, [(5, 5), (3, 3), (5, 5), (3, 3)], [(4, 4)] * 4)
        self.assert_found(grid, [(8, 8), (0, 0), (0, 0), (8, 8)], [(4, 4)] * 4)

    def test_no_loads_no_units_no_lines(self):
        for buses in (1, 2, 9):
            self.assert_found(Grid(buses, [], [], []), [], [])
        loads = Grid(2, [], [], [Load("d", 0), Load("e", 1)])
        self.assert_found(loads, [(0, 0), (0, 999)], [])
        self.assert_empty(loads, [(1, 1), (0, 999)], [])
        self.assert_empty(loads, [(0, 5), (1, 999)], [])
        units = Grid(3, [], [Unit("u", 0, 0, 999, 1), Unit("v", 2, 0, 999, 1)], [])
        self.assert_found(units, [], [(0, 999), (0, 0)])
        self.assert_empty(units, [], [(1, 999), (0, 0)])
        self.assert_empty(units, [], [(0, 999), (1, 1)])

    def test_misfit(self):
        for grid in made_grids(37, 60):
            for sizes, outs in misfits(grid):
                box, before = Box(sizes, outs), view(grid)
                with self.assertRaises(Misfit):
                    even_point(grid, box)
                self.assertEqual((ranges_of(box), view(grid)), ((tuple(sizes), tuple(outs)), before))

    def test_a_misfit_that_is_empty_too(self):
        grid = Grid(1, [], [Unit("u", 0, 2, 5, 1)], [Load("d", 0)])
        for sizes, outs in (([(9, 9)], [(2, 6)]), ([(9, 9)], [(1, 1)]), ([(9, 9), (0, 0)], [(2, 5)]), ([(9, 9)], [])):
            with self.assertRaises(Misfit):
                even_point(grid, Box(sizes, outs))
