import unittest

from lampward.net.cases import cases, grid_of
from lampward.net.grid import Grid, Unit
from lampward.net.islands import island_at, islands
from tests.helpers import connected, island_lists, made_grids, spoil_rows, view, wired

SAMPLES = [
    (wired(1, []), [[0]]),
    (wired(4, []), [[0], [1], [2], [3]]),
    (wired(9, []), [[bus] for bus in range(9)]),
    (wired(2, [(1, 0)]), [[0, 1]]),
    (wired(5, [(3, 1), (4, 2)]), [[0], [1, 3], [2, 4]]),
    (wired(6, [(5, 0), (4, 1), (3, 2)]), [[0, 5], [1, 4], [2, 3]]),
    (wired(6, [(5, 3), (3, 4)]), [[0], [1], [2], [3, 4, 5]]),
    (wired(9, [(8, 7), (7, 6), (6, 5), (5, 4), (4, 3), (3, 2), (2, 1), (1, 0)]), [list(range(9))]),
    (wired(9, [(0, 8), (1, 7), (2, 6), (3, 5), (8, 2), (5, 7)]), [[0, 2, 6, 8], [1, 3, 5, 7], [4]]),
    (wired(3, [(0, 1), (0, 1), (1, 0), (0, 1)]), [[0, 1], [2]]),
    (wired(4, [(0, 1), (1, 2), (2, 0)]), [[0, 1, 2], [3]]),
    (wired(9, [(7, 8), (5, 6), (3, 4), (1, 2), (6, 7), (2, 3), (4, 5)]), [[0], list(range(1, 9))]),
]


def sparse_grids():
    """Made grids of nine buses whose last lines are left out, so that there are several islands."""
    for k, grid in enumerate(made_grids(11, 200)):
        yield Grid(grid.buses, grid.lines[:k % 9], grid.units, grid.loads)


class Islands(unittest.TestCase):
    def test_samples(self):
        for grid, expected in SAMPLES:
            self.assertEqual(islands(grid), expected)

    def test_made_grids(self):
        for grid in sparse_grids():
            before = view(grid)
            self.assertEqual(islands(grid), island_lists(grid))
            self.assertEqual(view(grid), before)

    def test_kinds(self):
        for grid, _ in SAMPLES:
            self.assertIs(type(islands(grid)), list)
            for island in islands(grid):
                self.assertIs(type(island), list)

    def test_lists_may_be_changed(self):
        for grid, expected in SAMPLES:
            spoil_rows(islands(grid))
            self.assertEqual(islands(grid), expected)


class IslandAt(unittest.TestCase):
    def test_samples(self):
        for grid, expected in SAMPLES:
            for island in expected:
                for bus in island:
                    self.assertEqual(island_at(grid, bus), island)

    def test_made_grids_and_their_cases(self):
        for grid in sparse_grids():
            for case in cases(grid):
                taken = grid_of(grid, case)
                before = view(taken)
                self.assertEqual([island_at(taken, bus) for bus in range(taken.buses)], connected(taken))
                self.assertEqual(view(taken), before)

    def test_lists_may_be_changed(self):
        for grid, expected in SAMPLES:
            for island in expected:
                for bus in island:
                    found = island_at(grid, bus)
                    self.assertIs(type(found), list)
                    found.append("X")
                    found.reverse()
                    self.assertEqual(island_at(grid, bus), island)
            self.assertEqual(islands(grid), expected)


class Losses(unittest.TestCase):
    def test_lost_lines(self):
        for grid in sparse_grids():
            before = islands(grid)
            for line in grid.lines:
                taken = grid_of(grid, line.name)
                found = islands(taken)
                if line.b in connected(taken)[line.a]:
                    self.assertEqual(found, before)
                else:
                    whole = island_at(grid, line.a)
                    one, other = island_at(taken, line.a), island_at(taken, line.b)
                    self.assertEqual(sorted(one + other), whole)
                    stay = [island for island in before if island != whole]
                    self.assertEqual(found, sorted(stay + [one, other]))

    def test_a_line_that_splits_and_one_that_does_not(self):
        grid = wired(5, [(0, 1), (1, 2), (2, 0), (2, 4)])
        self.assertEqual(islands(grid), [[0, 1, 2, 4], [3]])
        names = [line.name for line in grid.lines]
        for name in names[:3]:
            self.assertEqual(islands(grid_of(grid, name)), [[0, 1, 2, 4], [3]])
        self.assertEqual(islands(grid_of(grid, names[3])), [[0, 1, 2], [3], [4]])

    def test_one_of_two_lines_between_the_same_buses(self):
        grid = wired(2, [(0, 1), (1, 0)])
        for line in grid.lines:
            self.assertEqual(islands(grid_of(grid, line.name)), [[0, 1]])
        grid = wired(3, [(0, 2), (2, 1)])
        self.assertEqual(islands(grid_of(grid, grid.lines[0].name)), [[0], [1, 2]])
        self.assertEqual(islands(grid_of(grid, grid.lines[1].name)), [[0, 2], [1]])

    def test_lost_units(self):
        for grid in sparse_grids():
            for unit in grid.units:
                self.assertEqual(islands(grid_of(grid, unit.name)), islands(grid))
        alone = Grid(2, [], [Unit("g", 1, 0, 1, 1)], [])
        self.assertEqual(islands(grid_of(alone, "g")), [[0], [1]])
