import unittest

from lampward.errors import BadGrid, NoSuch
from lampward.net.cases import cases, grid_of
from lampward.net.grid import Grid, Line, Load, Unit
from tests.helpers import line_view, load_view, made_grids, spoil, unit_view, view


def small_grid():
    lines = [Line("ab", 0, 1, 3, 40), Line("bc", 1, 2, 2, 30), Line("ba", 1, 0, 3, 40)]
    units = [Unit("g1", 0, 0, 90, 2), Unit("g2", 2, 5, 60, 0)]
    return Grid(4, lines, units, [Load("l1", 2), Load("l2", 3)])


class Names(unittest.TestCase):
    def test_small_grid(self):
        self.assertEqual(cases(small_grid()), ["-", "ab", "bc", "ba", "g1", "g2"])

    def test_nothing_to_lose(self):
        self.assertEqual(cases(Grid(1, [], [], [])), ["-"])
        self.assertEqual(cases(Grid(2, [], [], [Load("l1", 0)])), ["-"])

    def test_only_units(self):
        self.assertEqual(cases(Grid(1, [], [Unit("b", 0, 0, 1, 1), Unit("a", 0, 0, 1, 1)], [])), ["-", "b", "a"])

    def test_made_grids(self):
        for grid in made_grids(6, 60):
            before = view(grid)
            expected = ["-"] + [line.name for line in grid.lines] + [unit.name for unit in grid.units]
            self.assertEqual(cases(grid), expected)
            self.assertIs(type(cases(grid)), list)
            self.assertEqual(view(grid), before)

    def test_list_may_be_changed(self):
        grid = small_grid()
        before = view(grid)
        found = cases(grid)
        found.append("x")
        found[0] = "y"
        self.assertEqual(cases(grid), ["-", "ab", "bc", "ba", "g1", "g2"])
        self.assertEqual(view(grid), before)


class Grids(unittest.TestCase):
    def test_no_loss(self):
        for grid in made_grids(7, 60):
            same = grid_of(grid, "-")
            self.assertIsNot(same, grid)
            self.assertIsInstance(same, Grid)
            self.assertEqual(view(same), view(grid))

    def test_each_loss(self):
        for grid in made_grids(8, 60):
            buses, lines, units, loads = before = view(grid)
            for line in lines:
                rest = tuple(other for other in lines if other != line)
                self.assertEqual(view(grid_of(grid, line[0])), (buses, rest, units, loads))
            for unit in units:
                rest = tuple(other for other in units if other != unit)
                self.assertEqual(view(grid_of(grid, unit[0])), (buses, lines, rest, loads))
            self.assertEqual(view(grid), before)

    def test_two_losses(self):
        found = grid_of(grid_of(small_grid(), "ab"), "g2")
        self.assertEqual([line_view(line) for line in found.lines], [("bc", 1, 2, 2, 30), ("ba", 1, 0, 3, 40)])
        self.assertEqual([unit_view(unit) for unit in found.units], [("g1", 0, 0, 90, 2)])
        self.assertEqual([load_view(load) for load in found.loads], [("l1", 2), ("l2", 3)])
        self.assertEqual(found.buses, 4)

    def test_each_has_its_own_parts(self):
        for grid in made_grids(9, 40):
            before = view(grid)
            for case in cases(grid):
                first = grid_of(grid, case)
                expected = view(first)
                second = grid_of(grid, case)
                spoil(second.lines, second.units, second.loads)
                self.assertEqual(view(grid), before)
                self.assertEqual(view(first), expected)
                self.assertEqual(view(grid_of(grid, case)), expected)
                again = grid_of(first, "-")
                spoil(first.lines, first.units, first.loads)
                self.assertEqual(view(again), expected)

    def test_lists_given_may_be_changed(self):
        lines, units, loads = [Line("ab", 0, 1, 3, 40)], [Unit("g1", 0, 0, 90, 2)], [Load("l1", 1)]
        grid = Grid(2, lines, units, loads)
        before = view(grid)
        spoil(lines, units, loads)
        self.assertEqual(view(grid), before)
        same = grid_of(grid, "-")
        self.assertEqual(view(same), before)
        spoil(same.lines, same.units, same.loads)
        self.assertEqual(view(grid), before)


class NoSuchCases(unittest.TestCase):
    def assert_none(self, grid, text):
        before = view(grid)
        with self.assertRaises(NoSuch) as caught:
            grid_of(grid, text)
        self.assertEqual(caught.exception.name, text)
        self.assertEqual(view(grid), before)

    def test_loads(self):
        for grid in made_grids(10, 40):
            for load in grid.loads:
                self.assert_none(grid, load.name)

    def test_other_texts(self):
        texts = [
            "", " ", "--", "- ", " -", "-\n", "a", "b", "abc", "ab ", " ab", "AB", "ab\n", "g", "g3", "l3", "0", "-1",
            "ab,bc", "ab bc", "loss", "none", "bus", "line", "x" * 1000,
        ]
        for text in texts:
            self.assert_none(small_grid(), text)
            self.assert_none(Grid(1, [], [], []), text)

    def test_what_is_lost_already(self):
        for name in ("ab", "g1"):
            self.assert_none(grid_of(small_grid(), name), name)

    def test_it_is_no_fault_of_the_grid(self):
        with self.assertRaises(NoSuch) as caught:
            grid_of(small_grid(), "l1")
        self.assertNotIsInstance(caught.exception, BadGrid)
