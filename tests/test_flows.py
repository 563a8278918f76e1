import random
import unittest
from fractions import Fraction

from lampward.errors import Misfit, Uneven
from lampward.flow.flows import all_factors, factors, flows, heights
from lampward.net.cases import cases, grid_of
from lampward.net.grid import Grid
from tests.helpers import assert_fraction, island_lists, made_grids, pair, value, view, wired

HALF = Fraction(1, 2)
THIRD = Fraction(1, 3)


def some_grids():
    """Trees, loops, several lines between the same buses, islands, buses without lines."""
    grids = [
        wired(1, []), wired(3, []), wired(2, [(0, 1, 3)]), wired(2, [(1, 0, 3)]),
        wired(2, [(0, 1, 2), (1, 0, 3), (0, 1, 9)]), wired(3, [(0, 1), (1, 2), (2, 0)]),
        wired(5, [(3, 1, 2), (4, 2, 7)]), wired(4, [(3, 2, 4), (2, 1, 5), (1, 3, 6)]),
        wired(9, [(8, 7), (7, 6, 2), (6, 5, 3), (5, 4, 4), (4, 3, 5), (3, 2, 6), (2, 1, 7), (1, 0, 8)]),
        wired(9, [(k, (k + 1) % 9, 1 + k) for k in range(9)] + [(0, 4, 9), (8, 3, 5), (7, 2, 1)]),
        wired(9, [(0, 8), (1, 7, 2), (2, 6, 3), (3, 5, 4), (8, 2, 5), (5, 7, 6), (6, 0, 7)]),
    ]
    for k, grid in enumerate(made_grids(15, 90)):
        grids.append(Grid(grid.buses, grid.lines[k % 4:], grid.units, grid.loads))
    return grids


def even_feeds(chance, grid):
    """Feeds whose sum is 0 in each island."""
    feeds = [Fraction(chance.randint(-99, 99), chance.randint(1, 6)) for _ in range(grid.buses)]
    for island in island_lists(grid):
        feeds[chance.choice(island)] -= sum(feeds[bus] for bus in island)
    return feeds


def pairs(values):
    return [pair(number) for number in values]


class FlowTest(unittest.TestCase):
    def assert_heights(self, grid, feeds, found):
        """These are the heights: there is just one list that keeps the two rules."""
        self.assertIs(type(found), list)
        self.assertEqual(len(found), grid.buses)
        for height in found:
            assert_fraction(self, height, value(height))
        for island in island_lists(grid):
            self.assertEqual(found[island[0]], (0, 1))
        carried = [line.ease * (value(found[line.a]) - value(found[line.b])) for line in grid.lines]
        self.assert_balance(grid, feeds, carried)

    def assert_balance(self, grid, feeds, carried):
        away = [Fraction(0)] * grid.buses
        for line, flow in zip(grid.lines, carried):
            away[line.a] += flow
            away[line.b] -= flow
        self.assertEqual(away, feeds)

    def assert_flows(self, grid, feeds, levels, found):
        self.assertIs(type(found), list)
        self.assertEqual(len(found), len(grid.lines))
        for line, flow in zip(grid.lines, found):
            assert_fraction(self, flow, line.ease * (value(levels[line.a]) - value(levels[line.b])))
        self.assert_balance(grid, feeds, [value(flow) for flow in found])


class HeightsAndFlows(FlowTest):
    def assert_right(self, grid, feeds):
        before = view(grid)
        given = pairs(feeds)
        levels = heights(grid, given)
        self.assert_heights(grid, feeds, levels)
        carried = flows(grid, given)
        self.assert_flows(grid, feeds, levels, carried)
        self.assertEqual(given, pairs(feeds))
        kept = list(levels), list(carried)
        for found in (levels, carried):
            found.append("X")
            found.reverse()
        self.assertEqual((heights(grid, given), flows(grid, given)), kept)
        self.assertEqual(given, pairs(feeds))
        self.assertEqual(view(grid), before)

    def test_even_feeds(self):
        chance = random.Random(16)
        for grid in some_grids():
            for _ in range(2):
                self.assert_right(grid, even_feeds(chance, grid))

    def test_feeds_of_zero(self):
        for grid in some_grids():
            self.assert_right(grid, [Fraction(0)] * grid.buses)
            self.assertEqual(heights(grid, [(0, 1)] * grid.buses), [(0, 1)] * grid.buses)
            self.assertEqual(flows(grid, [(0, 1)] * grid.buses), [(0, 1)] * len(grid.lines))

    def test_cases(self):
        chance = random.Random(17)
        for grid in some_grids()[4:40]:
            for case in cases(grid):
                taken = grid_of(grid, case)
                self.assert_right(taken, even_feeds(chance, taken))

    def test_directions(self):
        feeds = [(6, 1), (-6, 1)]
        self.assertEqual(flows(wired(2, [(0, 1, 3)]), feeds), [(6, 1)])
        self.assertEqual(flows(wired(2, [(1, 0, 3)]), feeds), [(-6, 1)])
        self.assertEqual(heights(wired(2, [(0, 1, 3)]), feeds), [(0, 1), (-2, 1)])
        self.assertEqual(heights(wired(2, [(1, 0, 3)]), feeds), [(0, 1), (-2, 1)])
        self.assertEqual(heights(wired(2, [(0, 1, 4)]), [(-6, 1), (6, 1)]), [(0, 1), (3, 2)])

    def test_several_lines_share_by_their_eases(self):
        grid = wired(2, [(0, 1, 2), (1, 0, 3), (0, 1, 9)])
        self.assertEqual(flows(grid, [(14, 1), (-14, 1)]), [(2, 1), (-3, 1), (9, 1)])
        self.assertEqual(flows(grid, [(1, 1), (-1, 1)]), [(1, 7), (-3, 14), (9, 14)])

    def test_loop(self):
        grid = wired(3, [(0, 1), (1, 2), (2, 0)])
        self.assertEqual(heights(grid, [(3, 1), (-3, 1), (0, 1)]), [(0, 1), (-2, 1), (-1, 1)])
        self.assertEqual(flows(grid, [(3, 1), (-3, 1), (0, 1)]), [(2, 1), (-1, 1), (-1, 1)])
        self.assertEqual(flows(grid, [(1, 1), (-1, 1), (0, 1)]), [(2, 3), (-1, 3), (-1, 3)])

    def test_large_feeds(self):
        chance = random.Random(18)
        for grid in some_grids()[2:11]:
            feeds = even_feeds(chance, grid)
            self.assert_right(grid, [feed * (10 ** 40 + 1) for feed in feeds])
            self.assert_right(grid, [feed / 3 ** 50 for feed in feeds])

    def test_islands_do_not_matter_to_each_other(self):
        grid = wired(4, [(0, 2, 3), (1, 3, 5)])
        self.assertEqual(heights(grid, pairs([9, 5, -9, -5])), pairs([0, 0, -3, -1]))
        self.assertEqual(flows(grid, pairs([9, 5, -9, -5])), pairs([9, 5]))
        self.assertEqual(flows(grid, pairs([0, 5, 0, -5])), pairs([0, 5]))


class WrongFeeds(unittest.TestCase):
    def assert_misfit(self, grid, feeds):
        given = pairs(feeds)
        for call in (heights, flows):
            with self.assertRaises(Misfit):
                call(grid, given)
            self.assertEqual(given, pairs(feeds))

    def assert_uneven(self, bus, grid, feeds):
        given = pairs(feeds)
        before = view(grid)
        for call in (heights, flows):
            with self.assertRaises(Uneven) as caught:
                call(grid, given)
            self.assertEqual(caught.exception.bus, bus)
            self.assertEqual(given, pairs(feeds))
        self.assertEqual(view(grid), before)

    def test_too_many_or_too_few(self):
        for grid in some_grids():
            for many in (0, grid.buses - 1, grid.buses + 1, grid.buses + 9, len(grid.lines)):
                if many != grid.buses:
                    self.assert_misfit(grid, [0] * many)

    def test_both_at_once(self):
        for grid in some_grids():
            for many in (grid.buses - 1, grid.buses + 1):
                self.assert_misfit(grid, [1] * many)
                self.assert_misfit(grid, [HALF] + [0] * (many - 1) if many else [])

    def test_first_and_later_islands(self):
        grid = wired(6, [(5, 0), (4, 1)])
        self.assert_uneven(0, grid, [1, 0, 0, 0, 0, 0])
        self.assert_uneven(0, grid, [0, 0, 0, 0, 0, -1])
        self.assert_uneven(0, grid, [1, 1, 1, 1, 1, 1])
        self.assert_uneven(0, grid, [1, 0, 0, 0, -1, 0])
        self.assert_uneven(1, grid, [1, 1, 0, 0, 0, -1])
        self.assert_uneven(1, grid, [0, 0, 0, 0, HALF, 0])
        self.assert_uneven(1, grid, [0, 1, -1, 0, 0, 0])
        self.assert_uneven(2, grid, [0, 1, 1, -1, -1, 0])
        self.assert_uneven(2, grid, [0, 0, -1, 1, 0, 0])
        self.assert_uneven(3, grid, [2, 7, 0, THIRD, -7, -2])
        self.assert_uneven(3, grid, [0, 0, 0, 1, 0, 0])

    def test_fractions_that_do_not_add_up(self):
        grid = wired(3, [(0, 1), (1, 2)])
        self.assert_uneven(0, grid, [THIRD, THIRD, Fraction(-2, 3) + Fraction(1, 10 ** 40)])
        self.assertEqual(flows(grid, pairs([THIRD, THIRD, Fraction(-2, 3)])), pairs([THIRD, Fraction(2, 3)]))

    def test_one_bus(self):
        for feed in (1, -1, HALF):
            self.assert_uneven(0, wired(1, []), [feed])

    def test_made_feeds(self):
        chance = random.Random(19)
        for grid in some_grids():
            lists = island_lists(grid)
            feeds = even_feeds(chance, grid)
            wrong = sorted(chance.sample(range(len(lists)), chance.randint(1, len(lists))))
            for k in wrong:
                feeds[chance.choice(lists[k])] += chance.choice([1, -1, HALF, -THIRD])
            self.assert_uneven(lists[wrong[0]][0], grid, feeds)

    def test_a_case_whose_islands_are_others(self):
        grid = wired(3, [(0, 1), (1, 2)])
        names = [line.name for line in grid.lines]
        self.assert_uneven(0, grid_of(grid, names[0]), [1, 0, -1])
        self.assert_uneven(0, grid_of(grid, names[1]), [1, 0, -1])
        self.assert_uneven(1, grid_of(grid, names[0]), [0, 1, 1])
        self.assert_uneven(2, grid_of(grid, names[1]), [1, -1, 5])


class Factors(FlowTest):
    def test_they_are_flows_of_one(self):
        for grid in some_grids():
            before = view(grid)
            for island in island_lists(grid):
                for bus in island:
                    feeds = [Fraction(0)] * grid.buses
                    feeds[bus] += 1
                    feeds[island[0]] -= 1
                    found = factors(grid, bus)
                    self.assert_flows(grid, feeds, heights(grid, pairs(feeds)), found)
                    self.assertEqual(found, flows(grid, pairs(feeds)))
            self.assertEqual(view(grid), before)

    def test_first_buses_and_other_islands(self):
        for grid in some_grids():
            for island in island_lists(grid):
                self.assertEqual(factors(grid, island[0]), [(0, 1)] * len(grid.lines))
                for bus in island:
                    for line, factor in zip(grid.lines, factors(grid, bus)):
                        if line.a not in island:
                            self.assertEqual(factor, (0, 1))

    def test_flows_are_sums_of_them(self):
        chance = random.Random(20)
        for grid in some_grids():
            feeds = even_feeds(chance, grid)
            lists = [factors(grid, bus) for bus in range(grid.buses)]
            for k, flow in enumerate(flows(grid, pairs(feeds))):
                self.assertEqual(value(flow), sum(value(lists[bus][k]) * feeds[bus] for bus in range(grid.buses)))

    def test_known_ones(self):
        grid = wired(3, [(0, 1), (1, 2), (2, 0)])
        self.assertEqual(factors(grid, 0), [(0, 1), (0, 1), (0, 1)])
        self.assertEqual(factors(grid, 1), [(-2, 3), (1, 3), (1, 3)])
        self.assertEqual(factors(grid, 2), [(-1, 3), (-1, 3), (2, 3)])
        self.assertEqual(factors(wired(5, [(3, 1, 2), (4, 2, 7)]), 3), [(1, 1), (0, 1)])
        self.assertEqual(factors(wired(5, [(3, 1, 2), (4, 2, 7)]), 4), [(0, 1), (1, 1)])
        self.assertEqual(factors(wired(5, [(3, 1, 2), (4, 2, 7)]), 0), [(0, 1), (0, 1)])

    def test_those_of_all_buses(self):
        for grid in some_grids():
            self.assertEqual(all_factors(grid), [factors(grid, bus) for bus in range(grid.buses)])

    def test_lists_may_be_changed(self):
        for grid in some_grids()[:20]:
            for bus in range(grid.buses):
                first = factors(grid, bus)
                kept = list(first)
                first.append("X")
                first.reverse()
                self.assertEqual(factors(grid, bus), kept)
                self.assertIs(type(first), list)
