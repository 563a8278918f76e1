import random
import unittest
from fractions import Fraction

from lampward.errors import Misfit, NoSuch, Uneven
from lampward.flow.flows import factors
from lampward.loss.taking import After, after
from lampward.net.cases import cases, grid_of
from lampward.net.grid import Grid, Line, Load, Unit
from tests.helpers import (
    assert_fraction, at_island, even_numbers, first_uneven, island_lists, made_grids, pair, shared_grids, spoil,
    spoil_rows, value, view, with_shares, wrong_numbers,
)

BIG = 10 ** 20


def fields(state):
    """All fields of a state, as values that nothing else changes."""
    rows = tuple(tuple(island) for island in state.islands)
    lists = (state.needs, state.weights, state.outs, state.heights, state.flows)
    return (view(state.grid), rows) + tuple(tuple(numbers) for numbers in lists)


def some_grids():
    lines = [Line("a", 0, 1, 1, 9), Line("b", 1, 2, 2, 9), Line("c", 2, 0, 3, 9), Line("e", 2, 3, 4, 9)]
    units = [Unit("u", 0, 0, 99, 2), Unit("v", 3, 0, 99, 0), Unit("w", 1, 0, 99, 3), Unit("x", 3, 0, 99, 5)]
    loads = [Load("d", 2), Load("f", 3), Load("g", 3)]
    found = [
        Grid(1, [], [], []), Grid(9, [], [], []), Grid(4, lines, [], loads), Grid(4, lines, units, []),
        Grid(4, [], units, loads), Grid(4, lines, units, loads), Grid(9, lines, units, loads),
    ]
    return found + shared_grids(51, 90) + made_grids(52, 30)


def some_points(seed):
    """Grids, each with an even point: also with numbers that are negative, great, or 0."""
    chance = random.Random(seed)
    for k, grid in enumerate(some_grids()):
        for most in ((5, 90), (0, BIG))[k % 2]:
            yield grid, even_numbers(chance, grid, -most, most)


class Islands(unittest.TestCase):
    """The grid of the case, its islands, and what they need."""

    def test_grid_and_islands(self):
        for grid, (sizes, outs) in some_points(53):
            for case in cases(grid):
                state = after(grid, case, sizes, outs)
                self.assertIsInstance(state, After)
                self.assertIsInstance(state.grid, Grid)
                self.assertEqual(view(state.grid), view(grid_of(grid, case)))
                self.assertEqual(state.islands, island_lists(state.grid))

    def test_needs_and_weights(self):
        for grid, (sizes, outs) in some_points(54):
            for case in cases(grid):
                state = after(grid, case, sizes, outs)
                needs, weights = [], []
                for island in island_lists(grid_of(grid, case)):
                    units = [k for k in at_island(grid.units, island) if grid.units[k].name != case]
                    taken = sum(sizes[k] for k in at_island(grid.loads, island))
                    needs.append(taken - sum(outs[k] for k in units))
                    weights.append(sum(grid.units[k].share for k in units))
                self.assertEqual((state.needs, state.weights), (needs, weights))
                for number in state.needs + state.weights:
                    self.assertIs(type(number), int)

    def test_no_loss_needs_nothing(self):
        for grid, (sizes, outs) in some_points(55):
            state = after(grid, "-", sizes, outs)
            self.assertEqual(state.needs, [0] * len(state.islands))
            self.assertEqual(state.outs, [(out, 1) for out in outs])

    def test_a_loss_that_splits_an_island(self):
        lines = [Line("a", 0, 1, 1, 9), Line("b", 3, 2, 1, 9), Line("c", 1, 2, 1, 9)]
        units = [Unit("u", 0, 0, 99, 4), Unit("v", 3, 0, 99, 1), Unit("w", 1, 0, 99, 2)]
        grid = Grid(5, lines, units, [Load("d", 1), Load("e", 2)])
        state = after(grid, "c", [30, 20], [10, 25, 15])
        self.assertEqual(state.islands, [[0, 1], [2, 3], [4]])
        self.assertEqual((state.needs, state.weights), ([5, -5, 0], [6, 1, 0]))
        self.assertEqual(state.outs, [(40, 3), (20, 1), (50, 3)])
        state = after(grid, "a", [30, 20], [10, 25, 15])
        self.assertEqual(state.islands, [[0], [1, 2, 3], [4]])
        self.assertEqual((state.needs, state.weights), ([-10, 10, 0], [4, 3, 0]))
        self.assertEqual(state.outs, [(0, 1), (85, 3), (65, 3)])

    def test_a_lost_unit_counts_for_nothing(self):
        units = [Unit("u", 0, 0, 99, 4), Unit("v", 0, 0, 99, 3), Unit("w", 0, 0, 99, 2)]
        grid = Grid(1, [], units, [Load("d", 0)])
        for case, needs, weights, outs in (
            ("u", [10], [5], [(26, 1), (34, 1)]),
            ("v", [20], [6], [(70, 3), (110, 3)]),
            ("w", [30], [7], [(190, 7), (230, 7)]),
        ):
            state = after(grid, case, [60], [10, 20, 30])
            self.assertEqual((state.needs, state.weights, state.outs), (needs, weights, outs))


class Outs(unittest.TestCase):
    """The outputs after a case."""

    def test_outs(self):
        for grid, (sizes, outs) in some_points(56):
            for case in cases(grid):
                state = after(grid, case, sizes, outs)
                kept = [(unit, out) for unit, out in zip(grid.units, outs) if unit.name != case]
                self.assertEqual(len(state.outs), len(kept))
                for (unit, out), found in zip(kept, state.outs):
                    number = [unit.bus in island for island in state.islands].index(True)
                    expected = Fraction(out)
                    if state.weights[number] != 0:
                        expected += Fraction(state.needs[number] * unit.share, state.weights[number])
                    assert_fraction(self, found, expected)

    def test_shares_of_zero_stay(self):
        units = [Unit("u", 0, 0, 99, 0), Unit("v", 0, 0, 99, 3), Unit("w", 0, 0, 99, 0)]
        grid = Grid(1, [], units, [Load("d", 0)])
        self.assertEqual(after(grid, "u", [60], [10, 20, 30]).outs, [(30, 1), (30, 1)])
        self.assertEqual(after(grid, "v", [60], [10, 20, 30]).outs, [(10, 1), (30, 1)])
        self.assertEqual(after(grid, "w", [60], [10, 20, 30]).outs, [(10, 1), (50, 1)])

    def test_needs_below_zero(self):
        units = [Unit("u", 0, 0, 99, 1), Unit("v", 0, 0, 99, 2), Unit("w", 0, 0, 99, 4)]
        grid = Grid(1, [], units, [Load("d", 0)])
        self.assertEqual(after(grid, "w", [10], [4, 13, -7]).outs, [(5, 3), (25, 3)])
        self.assertEqual(after(grid, "u", [-10], [-4, 0, -6]).outs, [(-4, 3), (-26, 3)])

    def test_the_only_unit_of_an_island(self):
        lines = [Line("a", 0, 1, 1, 9)]
        grid = Grid(3, lines, [Unit("u", 0, 0, 99, 4), Unit("v", 2, 0, 99, 3)], [Load("d", 1), Load("e", 2)])
        state = after(grid, "u", [7, 8], [7, 8])
        self.assertEqual((state.needs, state.weights, state.outs), ([7, 0], [0, 3], [(8, 1)]))
        self.assertEqual((state.heights, state.flows), ([(0, 1)] * 3, [None]))
        state = after(grid, "v", [7, 8], [7, 8])
        self.assertEqual((state.needs, state.weights, state.outs), ([0, 8], [4, 0], [(7, 1)]))
        self.assertEqual((state.heights, state.flows), ([(0, 1), (-7, 1), (0, 1)], [(7, 1)]))

    def test_nothing_is_left_of_a_need_that_is_taken(self):
        for grid, (sizes, outs) in some_points(57):
            for case in cases(grid):
                state = after(grid, case, sizes, outs)
                for island, need, weight in zip(state.islands, state.needs, state.weights):
                    taken = sum(sizes[k] for k in at_island(grid.loads, island))
                    fed = sum(value(state.outs[k]) for k in at_island(state.grid.units, island))
                    self.assertEqual(taken - fed, need if weight == 0 else 0)


class Flows(unittest.TestCase):
    """Heights and flows after a case."""

    def assert_flows(self, state, sizes):
        self.assertEqual((len(state.heights), len(state.flows)), (state.grid.buses, len(state.grid.lines)))
        feeds = [Fraction(0)] * state.grid.buses
        for unit, out in zip(state.grid.units, state.outs):
            feeds[unit.bus] += value(out)
        for load, size in zip(state.grid.loads, sizes):
            feeds[load.bus] -= size
        for island, need, weight in zip(state.islands, state.needs, state.weights):
            lines = [k for k, line in enumerate(state.grid.lines) if line.a in island]
            if weight == 0 and need != 0:
                self.assertEqual([state.heights[bus] for bus in island], [(0, 1)] * len(island))
                self.assertEqual([state.flows[k] for k in lines], [None] * len(lines))
            else:
                self.assert_balance(state, island, lines, feeds)

    def assert_balance(self, state, island, lines, feeds):
        """Heights with these properties are the only ones there are."""
        self.assertEqual(state.heights[island[0]], (0, 1))
        away = {bus: Fraction(0) for bus in island}
        for k in lines:
            line = state.grid.lines[k]
            flow = line.ease * (value(state.heights[line.a]) - value(state.heights[line.b]))
            assert_fraction(self, state.flows[k], flow)
            away[line.a] += flow
            away[line.b] -= flow
        self.assertEqual(away, {bus: feeds[bus] for bus in island})
        for bus in island:
            assert_fraction(self, state.heights[bus], value(state.heights[bus]))

    def test_flows(self):
        for grid, (sizes, outs) in some_points(58):
            for case in cases(grid):
                self.assert_flows(after(grid, case, sizes, outs), sizes)

    def test_sums_by_factors(self):
        for grid, (sizes, outs) in list(some_points(59))[::3]:
            for case in cases(grid):
                state = after(grid, case, sizes, outs)
                rows = [factors(state.grid, bus) for bus in range(grid.buses)]
                for k, flow in enumerate(state.flows):
                    if flow is not None:
                        found = Fraction(0)
                        for unit, out in zip(state.grid.units, state.outs):
                            found += value(out) * value(rows[unit.bus][k])
                        for load, size in zip(grid.loads, sizes):
                            found -= size * value(rows[load.bus][k])
                        self.assertEqual(flow, pair(found))

    def test_needs_of_islands_of_weight_zero(self):
        lines = [Line("a", 0, 1, 1, 9), Line("b", 1, 2, 2, 9), Line("c", 3, 4, 3, 9)]
        units = [Unit("u", 0, 0, 99, 0), Unit("v", 2, 0, 99, 0), Unit("w", 4, 0, 99, 5)]
        grid = Grid(5, lines, units, [Load("d", 1), Load("e", 3)])
        for sizes, outs, needs, heights, flows in (
            ([9, 6], [4, 5, 6], [4, -4, 0], [0, 0, 0, 0, 2], [None, (-6, 1)]),
            ([9, 6], [0, 9, 6], [0, 0, 0], [0, 0, Fraction(9, 2), 0, 2], [(-9, 1), (-6, 1)]),
            ([9, 6], [14, -5, 6], [14, -14, 0], [0, 0, 0, 0, 2], [None, (-6, 1)]),
        ):
            state = after(grid, "a", sizes, outs)
            self.assertEqual(state.islands, [[0], [1, 2], [3, 4]])
            self.assertEqual((state.needs, state.weights), ([-needs[0], -needs[1], 0], [0, 0, 5]))
            self.assertEqual(state.outs, [(out, 1) for out in outs])
            self.assertEqual(state.heights, [pair(height) for height in heights])
            self.assertEqual(state.flows, flows)

    def test_what_is_left_elsewhere_changes_nothing(self):
        chance = random.Random(60)
        for grid in shared_grids(60, 90):
            sizes, outs = even_numbers(chance, grid)
            whole = after(grid, "-", sizes, outs)
            for part in grid.lines + grid.units:
                state = after(grid, part.name, sizes, outs)
                bus = part.a if part in grid.lines else part.bus
                for island in whole.islands:
                    if bus not in island:
                        self.assert_same_island(whole, state, island)

    def assert_same_island(self, whole, state, island):
        self.assertIn(island, state.islands)
        first, second = whole.islands.index(island), state.islands.index(island)
        self.assertEqual(state.needs[second], whole.needs[first])
        self.assertEqual(state.weights[second], whole.weights[first])
        for bus in island:
            self.assertEqual(state.heights[bus], whole.heights[bus])
        self.assertEqual(self.parts_in(state, island), self.parts_in(whole, island))

    def parts_in(self, state, island):
        units = [(unit.name, out) for unit, out in zip(state.grid.units, state.outs) if unit.bus in island]
        lines = [(line.name, flow) for line, flow in zip(state.grid.lines, state.flows) if line.a in island]
        return units, lines

    def test_a_part_that_does_nothing(self):
        """Without a line that carries nothing, or a unit that feeds nothing in, all else stays."""
        chance = random.Random(61)
        seen = {"line": 0, "unit": 0}
        for grid in shared_grids(61, 180):
            sizes, outs = even_numbers(chance, grid, -1, 1)
            whole = after(grid, "-", sizes, outs)
            idle = [("line", line.name) for line, flow in zip(grid.lines, whole.flows) if flow == (0, 1)]
            idle += [("unit", unit.name) for unit, out in zip(grid.units, outs) if out == 0]
            for kind, name in idle:
                seen[kind] += 1
                state = after(grid, name, sizes, outs)
                self.assertEqual(state.needs, [0] * len(state.islands))
                every = range(grid.buses)
                units, lines = self.parts_in(whole, every)
                expected = [row for row in units if row[0] != name], [row for row in lines if row[0] != name]
                self.assertEqual(self.parts_in(state, every), expected)
        self.assertGreater(min(seen.values()), 30)


class Errors(unittest.TestCase):
    def assert_no_such(self, grid, case, sizes, outs):
        with self.assertRaises(NoSuch) as caught:
            after(grid, case, sizes, outs)
        self.assertEqual(caught.exception.name, case)

    def test_no_such_case(self):
        chance = random.Random(62)
        for grid in made_grids(62, 40):
            sizes, outs = even_numbers(chance, grid)
            names = ["", "--", " -", "- ", "zz", "A", "a b", "0", grid.units[0].name + "x" if grid.units else "x"]
            for case in names + [load.name for load in grid.loads]:
                self.assert_no_such(grid, case, sizes, outs)
                # Other faults come later.
                self.assert_no_such(grid, case, sizes + [1], outs)
                self.assert_no_such(grid, case, [size + 1 for size in sizes], outs)

    def test_misfit(self):
        chance = random.Random(63)
        for grid in made_grids(63, 40):
            sizes, outs = even_numbers(chance, grid)
            before = view(grid)
            for case in cases(grid)[::3]:
                for one in (0, 1):
                    for few, others in wrong_numbers([size + one for size in sizes], outs, one):
                        given = (list(few), list(others))
                        with self.assertRaises(Misfit):
                            after(grid, case, few, others)
                        self.assertEqual(((few, others), view(grid)), (given, before))

    def test_a_lost_unit_has_an_output_at_the_point(self):
        grid = Grid(1, [], [Unit("u", 0, 0, 9, 1), Unit("v", 0, 0, 9, 1)], [Load("d", 0)])
        for case in ("u", "v"):
            with self.assertRaises(Misfit):
                after(grid, case, [5], [5])

    def test_uneven(self):
        chance = random.Random(64)
        seen = {}
        for grid in shared_grids(64, 150):
            sizes, outs = even_numbers(chance, grid)
            before = view(grid)
            for _ in range(4):
                more = [size + chance.choice([0, 0, 0, 1, -2]) for size in sizes]
                others = [out + chance.choice([0, 0, 0, 1, -2]) for out in outs]
                bus = first_uneven(grid, more, others)
                seen[bus] = True
                if bus is not None:
                    given = (list(more), list(others))
                    for case in cases(grid):
                        with self.assertRaises(Uneven) as caught:
                            after(grid, case, more, others)
                        self.assertEqual(caught.exception.bus, bus)
                    self.assertEqual(((more, others), view(grid)), (given, before))
        self.assertGreater(len(seen), 5)

    def test_islands_before_the_loss(self):
        lines = [Line("a", 2, 0, 1, 9), Line("b", 1, 3, 1, 9)]
        grid = Grid(5, lines, [Unit("u", 2, 0, 9, 1), Unit("v", 3, 0, 9, 1)], [Load("d", 0), Load("e", 1)])
        for sizes, outs, bus in (([5, 5], [4, 5], 0), ([5, 5], [5, 4], 1), ([5, 5], [4, 6], 0), ([-1, 0], [0, -1], 0)):
            for case in cases(grid):
                with self.assertRaises(Uneven) as caught:
                    after(grid, case, sizes, outs)
                self.assertEqual(caught.exception.bus, bus)


class Copies(unittest.TestCase):
    def test_nothing_is_kept_or_shared(self):
        chance = random.Random(65)
        for grid in with_units(chance, shared_grids(65, 45)):
            sizes, outs = even_numbers(chance, grid)
            before, given = view(grid), (list(sizes), list(outs))
            for case in cases(grid):
                first, second = after(grid, case, sizes, outs), after(grid, case, sizes, outs)
                kept = fields(first)
                self.assertEqual(fields(second), kept)
                spoil(second.grid.lines, second.grid.units, second.grid.loads)
                spoil_rows(second.islands)
                for numbers in (second.needs, second.weights, second.outs, second.heights, second.flows):
                    numbers.append("X")
                    numbers.reverse()
                self.assertEqual(fields(first), kept)
                self.assertEqual(((sizes, outs), view(grid)), (given, before))
                self.assertEqual(fields(after(grid, case, sizes, outs)), kept)

    def test_what_is_given_may_be_changed(self):
        chance = random.Random(66)
        for grid in shared_grids(66, 30):
            sizes, outs = even_numbers(chance, grid)
            states = [after(grid, case, sizes, outs) for case in cases(grid)]
            kept = [fields(state) for state in states]
            spoil(grid.lines, grid.units, grid.loads)
            for numbers in (sizes, outs):
                numbers.append("X")
                numbers.reverse()
            self.assertEqual([fields(state) for state in states], kept)

    def test_kinds(self):
        grid = Grid(2, [Line("a", 0, 1, 1, 1)], [Unit("u", 0, 0, 9, 1)], [Load("d", 1)])
        for case in cases(grid):
            state = after(grid, case, [3], [3])
            rows = [state.islands, state.needs, state.weights, state.outs, state.heights, state.flows]
            for found in rows + state.islands:
                self.assertIs(type(found), list)


def with_units(chance, grids):
    """The same grids, where several units take needs together."""
    return [with_shares(chance, grid, [0, 1, 2, 5]) for grid in grids]
