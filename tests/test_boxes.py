import itertools
import random
import unittest

from lampward.box.boxes import Box, fits, is_within, meet
from lampward.errors import BadBox, Misfit
from lampward.net.grid import Grid, Line, Load, Unit
from tests.helpers import made_grids, made_ranges, ranges_of, view

BIG = 10 ** 60 - 1
BAD_RANGES = [
    (-1, 5), (5, 4), (0, 1000), (-1, -1), (1000, 1000), (1, 0), (999, 998), (-1, 1000), (BIG, BIG), (-BIG, 0), (0, BIG),
]
GOOD_RANGES = [(0, 0), (999, 999), (0, 999), (5, 5), (4, 5), (0, 1), (998, 999)]
TINY = [(low, high) for low in range(4) for high in range(low, 4)]


class Making(unittest.TestCase):
    def assert_bad(self, number, sizes, outs):
        before = (list(sizes), list(outs))
        with self.assertRaises(BadBox) as caught:
            Box(sizes, outs)
        self.assertEqual(caught.exception.number, number)
        self.assertEqual((sizes, outs), before)

    def test_fields(self):
        chance = random.Random(21)
        for many in range(10):
            for others in range(10):
                sizes, outs = made_ranges(chance, many), made_ranges(chance, others)
                box = Box(sizes, outs)
                self.assertEqual((box.sizes, box.outs), (sizes, outs))
                for found in (box.sizes, box.outs):
                    self.assertIs(type(found), list)
                    for row in found:
                        self.assertIs(type(row), tuple)

    def test_good_ranges(self):
        for row in GOOD_RANGES:
            self.assertEqual(ranges_of(Box([row], [])), ((row,), ()))
            self.assertEqual(ranges_of(Box([], [row])), ((), (row,)))
        self.assertEqual(ranges_of(Box(GOOD_RANGES, GOOD_RANGES)), (tuple(GOOD_RANGES), tuple(GOOD_RANGES)))

    def test_no_ranges(self):
        self.assertEqual(ranges_of(Box([], [])), ((), ()))

    def test_bad_ranges(self):
        for row in BAD_RANGES:
            for many in range(4):
                for others in range(4):
                    sizes, outs = GOOD_RANGES[:many], GOOD_RANGES[:others]
                    self.assert_bad(many, sizes + [row], outs)
                    self.assert_bad(many, sizes + [row] + GOOD_RANGES, outs)
                    self.assert_bad(many + others, sizes, outs + [row])
                    self.assert_bad(many + others, sizes, outs + [row] + GOOD_RANGES)

    def test_the_first_of_several(self):
        for row, other in itertools.product(BAD_RANGES, repeat=2):
            self.assert_bad(1, [(0, 1), row, other], [other])
            self.assert_bad(0, [row], [other])
            self.assert_bad(2, [(0, 1), (2, 3)], [row, (0, 1), other])
            self.assert_bad(3, [(0, 1), (2, 3)], [(0, 1), row, other])

    def test_lists_given_may_be_changed(self):
        sizes, outs = [(0, 1), (2, 3)], [(4, 5)]
        box = Box(sizes, outs)
        sizes.append((7, 8))
        sizes[0] = (9, 9)
        outs.clear()
        self.assertEqual(ranges_of(box), (((0, 1), (2, 3)), ((4, 5),)))
        self.assertIs(box.holds([1, 2], [4]), True)

    def test_the_same_list_twice(self):
        rows = [(0, 1)]
        first, second = Box(rows, rows), Box(rows, rows)
        first.sizes.append((2, 3))
        self.assertEqual(ranges_of(second), (((0, 1),), ((0, 1),)))
        self.assertEqual(first.outs, [(0, 1)])
        self.assertEqual(rows, [(0, 1)])


class Equality(unittest.TestCase):
    def test_equal_exactly_if_the_ranges_are(self):
        lists = [[], [(0, 1)], [(0, 2)], [(1, 1)], [(0, 1), (0, 2)], [(0, 2), (0, 1)], [(0, 1), (0, 1)]]
        every = list(itertools.product(lists, repeat=2))
        for first in every:
            for second in every:
                self.assertIs(Box(*first) == Box(*second), first == second)
                self.assertIs(Box(*first) != Box(*second), first != second)

    def test_equal_to_nothing_else(self):
        class Lookalike:
            def __init__(self):
                self.sizes = [(0, 1)]
                self.outs = []

        box = Box([(0, 1)], [])
        for other in (None, 0, "", "Box", [(0, 1)], ([(0, 1)], []), ([], []), {}, Box, Lookalike(), True, False):
            self.assertIs(box == other, False)
            self.assertIs(box != other, True)
            self.assertIs(Box([], []) == other, False)

    def test_the_same_box(self):
        box = Box([(0, 1)], [(2, 3)])
        self.assertIs(box == box, True)
        self.assertIs(box != box, False)


class Holds(unittest.TestCase):
    def test_one_range(self):
        for low, high in GOOD_RANGES + [(3, 7)]:
            for number in (-BIG, -1, 0, 3, 4, 5, 7, low - 1, low, low + 1, high - 1, high, high + 1, 999, 1000, BIG):
                self.assertIs(Box([(low, high)], []).holds([number], []), low <= number <= high)
                self.assertIs(Box([], [(low, high)]).holds([], [number]), low <= number <= high)

    def test_each_number_counts(self):
        box = Box([(1, 2), (3, 4)], [(5, 6), (7, 8), (9, 9)])
        self.assertIs(box.holds([1, 4], [5, 8, 9]), True)
        for k in range(5):
            for step in (-5, 5):
                numbers = [1, 4, 5, 8, 9]
                numbers[k] += step
                self.assertIs(box.holds(numbers[:2], numbers[2:]), False)

    def test_numbers_of_numbers(self):
        box = Box([(0, 9), (0, 9)], [(0, 9), (0, 9)])
        for many in range(5):
            for others in range(5):
                self.assertIs(box.holds([5] * many, [5] * others), many == 2 and others == 2)

    def test_no_ranges(self):
        self.assertIs(Box([], []).holds([], []), True)
        self.assertIs(Box([], []).holds([0], []), False)
        self.assertIs(Box([], []).holds([], [0]), False)
        self.assertIs(Box([(0, 0)], []).holds([], []), False)
        self.assertIs(Box([], [(0, 0)]).holds([], []), False)

    def test_nothing_changes(self):
        box, sizes, outs = Box([(0, 1)], [(2, 3)]), [1], [3]
        self.assertIs(box.holds(sizes, outs), True)
        self.assertEqual((sizes, outs, ranges_of(box)), ([1], [3], (((0, 1),), ((2, 3),))))


class Fits(unittest.TestCase):
    def setUp(self):
        lines = [Line("a", 0, 1, 1, 1)]
        units = [Unit("u", 0, 10, 20, 1), Unit("v", 1, 0, 999, 1)]
        self.grid = Grid(2, lines, units, [Load("k", 0), Load("l", 1), Load("m", 1)])
        self.sizes = [(0, 999), (0, 0), (999, 999)]

    def assert_fits(self, expected, grid, sizes, outs):
        before = view(grid)
        box = Box(sizes, outs)
        self.assertIs(fits(grid, box), expected)
        self.assertEqual(view(grid), before)
        self.assertEqual(ranges_of(box), (tuple(sizes), tuple(outs)))

    def test_ranges_of_units(self):
        for low in (0, 9, 10, 11, 19, 20, 21, 999):
            for high in (9, 10, 11, 19, 20, 21, 999):
                if low <= high:
                    self.assert_fits(10 <= low and high <= 20, self.grid, self.sizes, [(low, high), (0, 999)])

    def test_ranges_of_later_units(self):
        grid = Grid(1, [], [Unit("u", 0, 0, 999, 1), Unit("v", 0, 5, 6, 1)], [])
        self.assert_fits(True, grid, [], [(0, 999), (5, 6)])
        self.assert_fits(True, grid, [], [(5, 6), (6, 6)])
        self.assert_fits(False, grid, [], [(5, 6), (4, 6)])
        self.assert_fits(False, grid, [], [(5, 6), (5, 7)])
        self.assert_fits(False, grid, [], [(5, 6), (0, 999)])
        self.assert_fits(False, grid, [], [(5, 6), (0, 3)])

    def test_numbers_of_ranges(self):
        for many in range(7):
            for others in range(5):
                self.assert_fits((many, others) == (3, 2), self.grid, [(10, 20)] * many, [(10, 20)] * others)

    def test_empty_grid(self):
        grid = Grid(3, [], [], [])
        self.assert_fits(True, grid, [], [])
        self.assert_fits(False, grid, [(0, 0)], [])
        self.assert_fits(False, grid, [], [(0, 0)])

    def test_made_grids(self):
        for grid in made_grids(22, 60):
            outs = [(unit.low, unit.high) for unit in grid.units]
            sizes = [(0, 999)] * len(grid.loads)
            self.assert_fits(True, grid, sizes, outs)
            self.assert_fits(False, grid, sizes + [(0, 0)], outs)
            for k, unit in enumerate(grid.units):
                if unit.high < 999:
                    self.assert_fits(False, grid, sizes, outs[:k] + [(unit.low, unit.high + 1)] + outs[k + 1:])
                if unit.low > 0:
                    self.assert_fits(False, grid, sizes, outs[:k] + [(unit.low - 1, unit.high)] + outs[k + 1:])


class Meet(unittest.TestCase):
    def assert_meet(self, first, second):
        """The meeting holds just the numbers that both ranges hold."""
        before = ranges_of(first), ranges_of(second)
        found = meet(first, second)
        common = []
        for rows, others in zip(*before):
            common.append([(max(row[0], other[0]), min(row[1], other[1])) for row, other in zip(rows, others)])
        if any(low > high for low, high in common[0] + common[1]):
            self.assertIsNone(found)
        else:
            self.assertIsInstance(found, Box)
            self.assertEqual((found.sizes, found.outs), tuple(common))
            for row in found.sizes + found.outs:
                self.assertIs(type(row), tuple)
            found.sizes.append("X")
            found.outs.insert(0, "X")
        self.assertEqual((ranges_of(first), ranges_of(second)), before)

    def test_one_range(self):
        for row, other in itertools.product(TINY, repeat=2):
            self.assert_meet(Box([row], []), Box([other], []))
            self.assert_meet(Box([], [row]), Box([], [other]))

    def test_two_ranges(self):
        few = [(0, 0), (0, 1), (1, 2), (2, 2), (0, 3)]
        for a, b, c, d in itertools.product(few, repeat=4):
            self.assert_meet(Box([a], [b]), Box([c], [d]))
            self.assert_meet(Box([a, b], []), Box([c, d], []))
            self.assert_meet(Box([], [a, b]), Box([], [c, d]))

    def test_known_ones(self):
        first, second = Box([(0, 5)], [(10, 20), (0, 999)]), Box([(5, 9)], [(0, 15), (7, 7)])
        self.assertEqual(meet(first, second), Box([(5, 5)], [(10, 15), (7, 7)]))
        self.assertIsNone(meet(first, Box([(6, 9)], [(0, 15), (7, 7)])))
        self.assertIsNone(meet(first, Box([(0, 9)], [(0, 9), (7, 7)])))
        self.assertIsNone(meet(first, Box([(0, 9)], [(21, 21), (7, 7)])))

    def test_no_ranges(self):
        self.assertEqual(meet(Box([], []), Box([], [])), Box([], []))

    def test_itself(self):
        box = Box([(0, 5)], [(3, 4)])
        self.assert_meet(box, box)
        self.assert_meet(Box([], []), Box([], []))
        self.assertEqual(meet(box, box), box)

    def test_made_boxes(self):
        chance = random.Random(23)
        for k in range(200):
            many, others = k % 10, k % 7
            most = chance.choice([2, 9, 999])
            first = Box(made_ranges(chance, many, most), made_ranges(chance, others, most))
            second = Box([(0, 999)] * many, made_ranges(chance, others, most))
            third = Box(made_ranges(chance, many, most), [(0, 999)] * others)
            self.assert_meet(first, second)
            self.assert_meet(second, third)
            self.assert_meet(third, first)

    def test_misfit(self):
        counts = [(0, 0), (0, 1), (1, 0), (1, 1), (2, 0), (0, 2), (2, 1), (1, 2), (9, 9)]
        for (many, others), (more, rest) in itertools.product(counts, repeat=2):
            if (many, others) != (more, rest):
                for row in ((0, 1), (5, 6)):
                    first, second = Box([(0, 1)] * many, [(0, 1)] * others), Box([row] * more, [row] * rest)
                    before = ranges_of(first), ranges_of(second)
                    with self.assertRaises(Misfit):
                        meet(first, second)
                    self.assertEqual((ranges_of(first), ranges_of(second)), before)


class IsWithin(unittest.TestCase):
    def assert_within(self, expected, inner, outer):
        before = ranges_of(inner), ranges_of(outer)
        self.assertIs(is_within(inner, outer), expected)
        self.assertEqual((ranges_of(inner), ranges_of(outer)), before)

    def test_one_range(self):
        for row, other in itertools.product(TINY + GOOD_RANGES, repeat=2):
            expected = other[0] <= row[0] and row[1] <= other[1]
            self.assert_within(expected, Box([row], []), Box([other], []))
            self.assert_within(expected, Box([], [row]), Box([], [other]))

    def test_each_range_counts(self):
        outer = Box([(2, 8)] * 3, [(2, 8)] * 3)
        self.assert_within(True, outer, outer)
        self.assert_within(True, Box([(2, 8), (5, 5), (2, 2)], [(8, 8), (3, 7), (2, 8)]), outer)
        for k in range(6):
            for row in ((1, 8), (2, 9), (0, 1), (9, 9), (0, 999)):
                rows = [(3, 4)] * 6
                rows[k] = row
                self.assert_within(False, Box(rows[:3], rows[3:]), outer)

    def test_numbers_of_ranges(self):
        for a, b, c, d in itertools.product(range(4), repeat=4):
            inner, outer = Box([(5, 5)] * a, [(5, 5)] * b), Box([(0, 9)] * c, [(0, 9)] * d)
            self.assert_within((a, b) == (c, d), inner, outer)

    def test_meetings_lie_within(self):
        chance = random.Random(24)
        for k in range(100):
            many, others = k % 4, k % 3
            first, second = [Box(made_ranges(chance, many, 9), made_ranges(chance, others, 9)) for _ in "ab"]
            found = meet(first, second)
            if found is not None:
                self.assert_within(True, found, first)
                self.assert_within(True, found, second)
            self.assert_within(found is not None and found == first, first, second)
