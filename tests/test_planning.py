import random
import time
import unittest

from lampward.errors import BadBox, Misfit
from lampward.net.grid import Grid, Line, Load, Unit
from lampward.plan.checking import check_plan
from lampward.plan.planning import plan
from tests.helpers import assert_fraction, island_lists, made_grids, point_within, sturdy_grid, value, view, wrong_numbers
from tests.plan_helpers import cost_of, drawn_plans, is_safe, least_cost, plan_grid, slow_check_plan


class PlanTest(unittest.TestCase):
    def planned(self, grid, sizes, costs, slow=True):
        """What plan returns, after all was looked at that can be seen of it."""
        given, before = (list(sizes), list(costs)), view(grid)
        found = plan(grid, sizes, costs)
        self.assertEqual(((sizes, costs), view(grid)), (given, before))
        self.assertIs(type(found), tuple)
        cost, outs, proof = found
        self.assert_rows(grid, proof)
        if outs is None:
            self.assertIsNone(cost)
        else:
            self.assertIs(type(cost), int)
            self.assertTrue(is_safe(grid, sizes, outs))
            self.assertEqual(cost_of(costs, outs), cost)
        self.assertIsNone(check_plan(grid, sizes, costs, (cost, outs), proof))
        if slow:
            self.assertIsNone(slow_check_plan(grid, sizes, costs, (cost, outs), proof))
        return found

    def assert_rows(self, grid, proof):
        self.assertIs(type(proof), list)
        for row in proof:
            self.assertIs(type(row), tuple)
            self.assertEqual(len(row), {"split": 3, "empty": 1, "harm": 3, "cost": 2}[row[0]])
            for number in row[1:] if row[0] == "split" else row[1:-1]:
                self.assertIs(type(number), int)
            if row[0] in ("harm", "cost"):
                self.assertIs(type(row[-1]), list)
                self.assertEqual(len(row[-1]), len(island_lists(grid)))
                for price in row[-1]:
                    assert_fraction(self, price, value(price))


class AgainstAllOutputs(PlanTest):
    def test_least_costs(self):
        seen = {True: 0, False: 0}
        for grid, sizes, costs in drawn_plans(281, 300):
            cost, outs, _ = self.planned(grid, sizes, costs)
            self.assertEqual(cost, least_cost(grid, sizes, costs))
            seen[cost is None] += len(grid.units) > 1
        self.assertGreater(min(seen.values()), 40)

    def test_results_that_are_changed(self):
        many = 0
        for grid, sizes, costs in drawn_plans(282, 60):
            cost, outs, proof = plan(grid, sizes, costs)
            rows = [row[:-1] + (list(row[-1]),) if row[0] in ("harm", "cost") else row for row in proof]
            kept = (cost, None if outs is None else list(outs), rows)
            for row in proof:
                if row[0] in ("harm", "cost"):
                    row[-1].append("X")
                    many += 1
            proof.append("X")
            if outs is not None:
                outs.append("X")
            self.assertEqual(plan(grid, sizes, costs), kept)
        self.assertGreater(many, 60)


class GreatGrids(PlanTest):
    def test_in_seconds(self):
        """Up to 2,000 numbers in the ranges of all units; the proof shows that the cost is the least one."""
        chance = random.Random(283)
        seen = {True: 0, False: 0}
        for k in range(60):
            many = (2, 3, 4, 5, 6, 6)[k % 6]
            grid, sizes, costs = plan_grid(chance, many, 1998 // many - 40, (1.5, 2.5, 4)[k % 3])
            started = time.perf_counter()
            cost, _, proof = plan(grid, sizes, costs)
            self.assertLess(time.perf_counter() - started, 20)
            self.assertEqual(self.planned(grid, sizes, costs, len(proof) < 400)[0], cost)
            seen[cost is None] += 1
        self.assertGreater(min(seen.values()), 10)

    def test_costs_just_above_those_that_cannot_be(self):
        """Grids for which the last cost that is tried is the least one less 1."""
        for seed, many in ((41, 6), (495, 5), (767, 6)):
            chance = random.Random(seed)
            span, tight = chance.choice([20, 60, 1998 // many - 40]), chance.choice([1.5, 2.5, 4])
            grid, sizes, costs = plan_grid(chance, many, span, tight)
            self.assertIsNotNone(self.planned(grid, sizes, costs)[0])

    def test_costs_that_are_equal(self):
        """Cheap units behind a narrow line, and dear ones: many outputs cost the same."""
        for many, span, costs in ((2, 300, [10, 20]), (2, 300, [0, 1]), (3, 30, [10, 20]), (3, 40, [5, 5])):
            units = [Unit("c" + str(k), 0, 0, span, 1) for k in range(many)]
            units += [Unit("e" + str(k), 1, 0, span, 1) for k in range(many)]
            lines = [Line("a", 0, 1, 1, span // 2), Line("b", 0, 1, 2, span)]
            grid = Grid(2, lines, units, [Load("d", 1), Load("e", 1)])
            self.planned(grid, [span // 2, span // 3], [costs[0]] * many + [costs[1]] * many)

    def test_several_islands(self):
        chance = random.Random(284)
        seen = {True: 0, False: 0}
        for _ in range(25):
            grid = sturdy_grid(chance, 60, (20, 40, 60, 99), 2)
            sizes, _ = point_within(chance, grid, 1, 30)
            costs = [chance.randint(0, 99) for _ in grid.units]
            seen[self.planned(grid, sizes, costs)[0] is None] += 1
        self.assertGreater(min(seen.values()), 3)


class Edges(PlanTest):
    def test_no_units_and_no_loads(self):
        for buses in (1, 9):
            self.assertEqual(self.planned(Grid(buses, [], [], []), [], [])[:2], (0, []))
        grid = Grid(2, [Line("a", 0, 1, 1, 0)], [], [Load("d", 0), Load("e", 1)])
        self.assertEqual(self.planned(grid, [0, 0], [])[:2], (0, []))
        self.assertEqual(self.planned(grid, [0, 1], []), (None, None, [("empty",)]))
        self.assertEqual(self.planned(grid, [999, 999], [])[:2], (None, None))
        grid = Grid(1, [], [Unit("u", 0, 0, 9, 1), Unit("v", 0, 0, 9, 0)], [])
        self.assertEqual(self.planned(grid, [], [5, 6])[:2], (0, [0, 0]))
        grid = Grid(1, [], [Unit("u", 0, 1, 9, 1), Unit("v", 0, 0, 9, 0)], [])
        self.assertEqual(self.planned(grid, [], [5, 6])[:2], (None, None))

    def test_ranges_of_one_number(self):
        units = [Unit("u", 0, 5, 5, 1), Unit("v", 0, 0, 20, 1), Unit("w", 0, 7, 7, 0)]
        grid = Grid(1, [], units, [Load("d", 0)])
        self.assertEqual(self.planned(grid, [12], [1, 2, 3])[:2], (None, None))
        self.assertEqual(self.planned(grid, [11], [1, 2, 3])[:2], (None, None))
        self.assertEqual(self.planned(grid, [40], [1, 2, 3])[:2], (None, None))
        units = [Unit("u", 0, 0, 0, 0), Unit("v", 0, 0, 0, 1)]
        self.assertEqual(self.planned(Grid(1, [], units, [Load("d", 0)]), [0], [9, 9])[:2], (0, [0, 0]))

    def test_costs_of_nothing_and_of_much(self):
        units = [Unit("u", 0, 0, 999, 1), Unit("v", 0, 0, 999, 1)]
        grid = Grid(1, [], units, [Load("d", 0)])
        self.assertEqual(self.planned(grid, [999], [0, 0])[0], 0)
        self.assertEqual(self.planned(grid, [999], [0, 99])[:2], (0, [999, 0]))
        self.assertEqual(self.planned(grid, [999], [99, 0])[:2], (0, [0, 999]))
        self.assertEqual(self.planned(grid, [999], [99, 99])[0], 99 * 999)
        self.assertEqual(self.planned(grid, [0], [99, 98])[:2], (0, [0, 0]))

    def test_sizes_that_are_too_great(self):
        units = [Unit("u", 0, 0, 999, 1), Unit("v", 0, 0, 999, 1)]
        grid = Grid(1, [], units, [Load("d", 0), Load("e", 0)])
        self.assertEqual(self.planned(grid, [999, 1], [1, 2])[:2], (None, None))
        self.assertEqual(self.planned(grid, [999, 999], [1, 2])[:2], (None, None))
        self.assertEqual(self.planned(grid, [999, 0], [1, 2])[:2], (999, [999, 0]))

    def test_a_line_that_limits_the_cheap_unit(self):
        lines = [Line("a", 0, 1, 1, 40), Line("b", 0, 1, 1, 50)]
        units = [Unit("u", 0, 0, 99, 1), Unit("v", 1, 0, 99, 1)]
        grid = Grid(2, lines, units, [Load("d", 1)])
        # After the loss of the second line, the first one carries all that u feeds in; after that of v, half of all.
        self.assertEqual(self.planned(grid, [40], [1, 9])[:2], (40, [40, 0]))
        self.assertEqual(self.planned(grid, [41], [1, 9])[:2], (49, [40, 1]))
        self.assertEqual(self.planned(grid, [80], [1, 9])[:2], (400, [40, 40]))
        self.assertEqual(self.planned(grid, [81], [1, 9])[:2], (None, None))
        units = [Unit("u", 0, 0, 45, 1), Unit("v", 1, 0, 45, 1), Unit("w", 1, 0, 20, 9)]
        grid = Grid(2, lines, units, [Load("d", 1)])
        self.assertEqual(self.planned(grid, [60], [1, 9, 2])[0], least_cost(grid, [60], [1, 9, 2]))

    def test_a_range_that_does_not_suffice_after_a_loss(self):
        units = [Unit("u", 0, 0, 50, 1), Unit("v", 0, 0, 50, 1), Unit("w", 0, 0, 50, 1)]
        grid = Grid(1, [], units, [Load("d", 0)])
        self.assertEqual(self.planned(grid, [100], [1, 2, 3])[0], least_cost(grid, [100], [1, 2, 3]))
        self.assertEqual(self.planned(grid, [101], [1, 2, 3])[:2], (None, None))


class Errors(unittest.TestCase):
    def assert_raises(self, error, grid, sizes, costs, number=None):
        before, given = view(grid), (list(sizes), list(costs))
        for call in (lambda: plan(grid, sizes, costs), lambda: check_plan(grid, sizes, costs, (None, [0]), [])):
            with self.assertRaises(error) as caught:
                call()
            if number is not None:
                self.assertEqual(caught.exception.number, number)
        self.assertEqual((view(grid), (sizes, costs)), (before, given))

    def test_misfit_and_bad_sizes(self):
        for grid in made_grids(285, 60):
            sizes, costs = [5] * len(grid.loads), [5] * len(grid.units)
            for wrong in wrong_numbers(sizes, costs, 5):
                self.assert_raises(Misfit, grid, *wrong)
                self.assert_raises(Misfit, grid, [-n for n in wrong[0]], wrong[1])
            for k in range(len(sizes)):
                for size in (-1, 1000, -999, 10 ** 30):
                    changed = sizes[:k] + [size] + sizes[k + 1:]
                    self.assert_raises(BadBox, grid, changed, costs, k)
                    self.assert_raises(BadBox, grid, changed[:k + 1] + [-1] * (len(sizes) - k - 1), costs, k)
                    self.assert_raises(Misfit, grid, changed, costs + [1])
