import random
import unittest
from fractions import Fraction

from lampward.errors import NoSuch
from lampward.flow.flows import factors
from lampward.grant.watches import Watch, watches, watches_of
from lampward.loss.taking import after
from lampward.net.cases import cases, grid_of
from lampward.net.grid import Grid, Line, Load, Unit
from tests.helpers import (
    assert_fraction, at_island, even_numbers, island_lists, made_grids, pair, shared_grids, slow_sum, small_grid, value,
    view,
)

OPPOSITE = {"short": "spare", "high": "low", "forth": "back"}


def fields(watch):
    """All fields of a watch, as values that nothing else changes."""
    weights = tuple(tuple(numbers) for numbers in watch.weights)
    return (watch.case, watch.kind, watch.place, weights, watch.most)


def titles(found):
    return [(watch.case, watch.kind, watch.place, watch.most) for watch in found]


def expected_titles(grid, case):
    """The cases, kinds, places and mosts of the watches of a case, in their order."""
    taken, found = grid_of(grid, case), []
    for island in island_lists(taken):
        if sum(taken.units[k].share for k in at_island(taken.units, island)) == 0:
            found += [(case, "short", island[0], 0), (case, "spare", island[0], 0)]
    for unit in taken.units:
        if unit.share > 0:
            found += [(case, "high", unit.name, unit.high), (case, "low", unit.name, -unit.low)]
    for line in taken.lines:
        found += [(case, "forth", line.name, line.limit), (case, "back", line.name, line.limit)]
    return found


class Weighing:
    """The weights of a case as the document tells them, as lists of Python's fractions."""

    def __init__(self, grid, case):
        self.grid = grid
        self.case = case
        self.taken = grid_of(grid, case)
        self.rows = [factors(self.taken, bus) for bus in range(grid.buses)]

    def island(self, bus):
        return [island for island in island_lists(self.taken) if bus in island][0]

    def left(self, island):
        return [k for k in at_island(self.grid.units, island) if self.grid.units[k].name != self.case]

    def need(self, island):
        for_loads = [Fraction(load.bus in island) for load in self.grid.loads]
        for_units = [Fraction(0)] * len(self.grid.units)
        for k in self.left(island):
            for_units[k] = Fraction(-1)
        return for_loads, for_units

    def out(self, k):
        island = self.island(self.grid.units[k].bus)
        weight = sum(self.grid.units[place].share for place in self.left(island))
        for_loads, for_units = self.need(island)
        part = Fraction(self.grid.units[k].share, weight) if weight else Fraction(0)
        for_loads, for_units = [part * number for number in for_loads], [part * number for number in for_units]
        for_units[k] += 1
        return for_loads, for_units

    def flow(self, name):
        place = [line.name for line in self.taken.lines].index(name)
        island = self.island(self.taken.lines[place].a)
        for_loads, for_units = [Fraction(0)] * len(self.grid.loads), [Fraction(0)] * len(self.grid.units)
        for k in at_island(self.grid.loads, island):
            for_loads[k] -= value(self.rows[self.grid.loads[k].bus][place])
        for k in self.left(island):
            factor = value(self.rows[self.grid.units[k].bus][place])
            for_rows, others = self.out(k)
            for_loads = [number + factor * more for number, more in zip(for_loads, for_rows)]
            for_units = [number + factor * more for number, more in zip(for_units, others)]
        return for_loads, for_units

    def weights(self, kind, place):
        if kind in ("short", "spare"):
            found = self.need(self.island(place))
        elif kind in ("high", "low"):
            found = self.out([unit.name for unit in self.grid.units].index(place))
        else:
            found = self.flow(place)
        sign = 1 if kind in OPPOSITE else -1
        return tuple([sign * number for number in numbers] for numbers in found)


def some_grids(seed):
    lines = [Line("a", 0, 1, 1, 9), Line("b", 1, 2, 2, 7), Line("c", 2, 0, 3, 0), Line("e", 2, 3, 4, 9999)]
    units = [Unit("u", 0, 0, 99, 2), Unit("v", 3, 5, 9, 0), Unit("w", 1, 7, 7, 3), Unit("x", 3, 0, 999, 5)]
    loads = [Load("d", 2), Load("f", 3), Load("g", 3)]
    found = [
        Grid(1, [], [], []), Grid(9, [], [], []), Grid(4, lines, [], loads), Grid(4, lines, units, []),
        Grid(4, [], units, loads), Grid(4, lines, units, loads), Grid(9, lines, units, loads),
    ]
    chance = random.Random(seed)
    return found + shared_grids(seed, 60) + made_grids(seed, 18) + [small_grid(chance) for _ in range(40)]


class Titles(unittest.TestCase):
    def test_each_case(self):
        for grid in some_grids(111):
            before = view(grid)
            for case in cases(grid):
                found = watches_of(grid, case)
                self.assertIs(type(found), list)
                self.assertEqual(titles(found), expected_titles(grid, case))
                for watch in found:
                    self.assertIsInstance(watch, Watch)
                    self.assertIs(type(watch.most), int)
                    self.assertIs(type(watch.place), int if watch.kind in ("short", "spare") else str)
            self.assertEqual(view(grid), before)

    def test_all_cases(self):
        for grid in some_grids(112):
            before = view(grid)
            found = watches(grid)
            self.assertIs(type(found), list)
            expected = [fields(watch) for case in cases(grid) for watch in watches_of(grid, case)]
            self.assertEqual([fields(watch) for watch in found], expected)
            for watch in found:
                self.assertIsInstance(watch, Watch)
            self.assertEqual(view(grid), before)

    def test_known_ones(self):
        lines = [Line("ab", 0, 1, 2, 40), Line("cb", 2, 1, 1, 0)]
        units = [Unit("g1", 0, 10, 60, 2), Unit("g2", 1, 5, 5, 0), Unit("g3", 2, 0, 999, 1)]
        grid = Grid(4, lines, units, [Load("l", 1)])
        self.assertEqual(titles(watches_of(grid, "-")), [
            ("-", "short", 3, 0), ("-", "spare", 3, 0), ("-", "high", "g1", 60), ("-", "low", "g1", -10),
            ("-", "high", "g3", 999), ("-", "low", "g3", 0), ("-", "forth", "ab", 40), ("-", "back", "ab", 40),
            ("-", "forth", "cb", 0), ("-", "back", "cb", 0),
        ])
        self.assertEqual(titles(watches_of(grid, "cb")), [
            ("cb", "short", 3, 0), ("cb", "spare", 3, 0), ("cb", "high", "g1", 60), ("cb", "low", "g1", -10),
            ("cb", "high", "g3", 999), ("cb", "low", "g3", 0), ("cb", "forth", "ab", 40), ("cb", "back", "ab", 40),
        ])
        self.assertEqual(titles(watches_of(grid, "ab")), [
            ("ab", "short", 3, 0), ("ab", "spare", 3, 0), ("ab", "high", "g1", 60), ("ab", "low", "g1", -10),
            ("ab", "high", "g3", 999), ("ab", "low", "g3", 0), ("ab", "forth", "cb", 0), ("ab", "back", "cb", 0),
        ])
        self.assertEqual(titles(watches_of(grid, "g1")), [
            ("g1", "short", 3, 0), ("g1", "spare", 3, 0), ("g1", "high", "g3", 999), ("g1", "low", "g3", 0),
            ("g1", "forth", "ab", 40), ("g1", "back", "ab", 40), ("g1", "forth", "cb", 0), ("g1", "back", "cb", 0),
        ])

    def test_weight_zero_by_a_loss(self):
        grid = Grid(2, [Line("a", 0, 1, 1, 3)], [Unit("u", 0, 0, 9, 1), Unit("v", 1, 0, 9, 0)], [Load("d", 1)])
        self.assertEqual(titles(watches_of(grid, "-"))[0], ("-", "high", "u", 9))
        self.assertEqual(titles(watches_of(grid, "v"))[0], ("v", "high", "u", 9))
        self.assertEqual(titles(watches_of(grid, "u")), [
            ("u", "short", 0, 0), ("u", "spare", 0, 0), ("u", "forth", "a", 3), ("u", "back", "a", 3),
        ])
        self.assertEqual(titles(watches_of(grid, "a")), [
            ("a", "short", 1, 0), ("a", "spare", 1, 0), ("a", "high", "u", 9), ("a", "low", "u", 0),
        ])


class Weights(unittest.TestCase):
    def test_weights(self):
        for grid in some_grids(113):
            for case in cases(grid):
                expected = Weighing(grid, case)
                for watch in watches_of(grid, case):
                    self.assertIs(type(watch.weights), tuple)
                    self.assertEqual(len(watch.weights), 2)
                    for numbers, exact in zip(watch.weights, expected.weights(watch.kind, watch.place)):
                        self.assertIs(type(numbers), list)
                        self.assertEqual(numbers, [pair(number) for number in exact])
                        for number in numbers:
                            assert_fraction(self, number, value(number))

    def test_opposite_ones(self):
        for grid in some_grids(114):
            found = watches(grid)
            for first, second in zip(found[::2], found[1::2]):
                self.assertEqual(second.kind, OPPOSITE[first.kind])
                self.assertEqual((second.case, second.place), (first.case, first.place))
                for numbers, others in zip(first.weights, second.weights):
                    self.assertEqual(others, [(-n, d) for n, d in numbers])

    def test_sums_are_what_the_case_brings(self):
        """At each even point the sum is the need, the output or the flow after the case, or minus it."""
        chance = random.Random(115)
        seen = {}
        for grid in some_grids(115):
            points = [even_numbers(chance, grid, -50, 90) for _ in range(2)]
            points += [([0] * len(grid.loads), [0] * len(grid.units))]
            for case in cases(grid):
                found = watches_of(grid, case)
                for sizes, outs in points:
                    state = after(grid, case, sizes, outs)
                    for watch in found:
                        self.assert_sum(watch, state, sizes, outs, seen)
        self.assertEqual(len(seen), 6)
        self.assertGreater(min(seen.values()), 100)

    def assert_sum(self, watch, state, sizes, outs, seen):
        expected = self.brought(watch, state)
        if expected is not None:
            seen[watch.kind] = seen.get(watch.kind, 0) + 1
            weights = tuple([value(number) for number in numbers] for numbers in watch.weights)
            sign = 1 if watch.kind in OPPOSITE else -1
            self.assertEqual(slow_sum(weights, sizes, outs), sign * expected)

    def brought(self, watch, state):
        """What the watch is about, or None for a line without a flow."""
        if watch.kind in ("short", "spare"):
            return state.needs[[island[0] for island in state.islands].index(watch.place)]
        if watch.kind in ("high", "low"):
            return value(state.outs[[unit.name for unit in state.grid.units].index(watch.place)])
        flow = state.flows[[line.name for line in state.grid.lines].index(watch.place)]
        return None if flow is None else value(flow)

    def test_known_ones(self):
        units = [Unit("u", 0, 0, 99, 1), Unit("v", 1, 0, 99, 2), Unit("w", 1, 0, 99, 3)]
        grid = Grid(2, [Line("a", 0, 1, 5, 9)], units, [Load("d", 0), Load("e", 1)])
        found = {(watch.kind, watch.place): watch.weights for watch in watches_of(grid, "w")}
        self.assertEqual(found["high", "u"], ([(1, 3), (1, 3)], [(2, 3), (-1, 3), (0, 1)]))
        self.assertEqual(found["low", "v"], ([(-2, 3), (-2, 3)], [(2, 3), (-1, 3), (0, 1)]))
        self.assertEqual(found["forth", "a"], ([(-2, 3), (1, 3)], [(2, 3), (-1, 3), (0, 1)]))
        self.assertEqual(found["back", "a"], ([(2, 3), (-1, 3)], [(-2, 3), (1, 3), (0, 1)]))
        found = {(watch.kind, watch.place): watch.weights for watch in watches_of(grid, "a")}
        self.assertEqual(found["high", "u"], ([(1, 1), (0, 1)], [(0, 1), (0, 1), (0, 1)]))
        self.assertEqual(found["high", "w"], ([(0, 1), (3, 5)], [(0, 1), (-3, 5), (2, 5)]))

    def test_islands_of_weight_zero(self):
        units = [Unit("u", 0, 0, 99, 0), Unit("v", 1, 0, 99, 0), Unit("w", 1, 0, 99, 4)]
        grid = Grid(3, [Line("a", 0, 1, 5, 9)], units, [Load("d", 0), Load("e", 1), Load("f", 2)])
        found = {(watch.kind, watch.place): watch.weights for watch in watches_of(grid, "w")}
        self.assertEqual(found["short", 0], ([(1, 1), (1, 1), (0, 1)], [(-1, 1), (-1, 1), (0, 1)]))
        self.assertEqual(found["spare", 0], ([(-1, 1), (-1, 1), (0, 1)], [(1, 1), (1, 1), (0, 1)]))
        self.assertEqual(found["short", 2], ([(0, 1), (0, 1), (1, 1)], [(0, 1), (0, 1), (0, 1)]))
        self.assertEqual(found["forth", "a"], ([(0, 1), (1, 1), (0, 1)], [(0, 1), (-1, 1), (0, 1)]))
        self.assertEqual(len(found), 6)


class NoSuchCase(unittest.TestCase):
    def test_names_that_are_no_cases(self):
        for grid in made_grids(116, 40):
            before = view(grid)
            for case in ["", "--", "- ", " -", "zz", "A", "0"] + [load.name for load in grid.loads]:
                with self.assertRaises(NoSuch) as caught:
                    watches_of(grid, case)
                self.assertEqual(caught.exception.name, case)
            self.assertEqual(view(grid), before)


class Copies(unittest.TestCase):
    def test_lists_that_are_changed(self):
        for grid in shared_grids(117, 30):
            case = cases(grid)[-1]
            for ask in (lambda: watches_of(grid, case), lambda: watches(grid)):
                first, second = ask(), ask()
                kept = [fields(watch) for watch in first]
                self.assertEqual([fields(watch) for watch in second], kept)
                for watch in second:
                    for numbers in watch.weights:
                        numbers.append("X")
                        numbers.reverse()
                second.append("X")
                second.reverse()
                self.assertEqual([fields(watch) for watch in first], kept)
                self.assertEqual([fields(watch) for watch in ask()], kept)
