import math
import random
import unittest

from lampward.errors import Misfit, NoSuch, Uneven
from lampward.loss.harms import harmless, harms
from lampward.loss.taking import after
from lampward.net.cases import cases
from lampward.net.grid import Grid, Line, Load, Unit
from tests.helpers import (
    assert_fraction, even_numbers, first_uneven, made_grids, shared_grids, value, view, wrong_numbers,
)


def bounded(low, number, high):
    return max(low, min(number, high))


def tight(chance, grid, case, sizes, outs):
    """The same grid, with limits and ranges that the state after the case just keeps, or just breaks."""
    state = after(grid, case, sizes, outs)
    carried = {line.name: flow for line, flow in zip(state.grid.lines, state.flows)}
    fed = {unit.name: value(out) for unit, out in zip(state.grid.units, state.outs)}
    lines, units = [], []
    for line in grid.lines:
        flow = carried.get(line.name)
        limit = 5 if flow is None else math.floor(abs(value(flow))) + chance.choice([-1, 0, 0, 1])
        lines.append(Line(line.name, line.a, line.b, line.ease, bounded(0, limit, 9999)))
    for unit in grid.units:
        out = fed.get(unit.name, 3)
        low = bounded(0, math.floor(out) - chance.choice([-1, 0, 0, 1, 5]), 999)
        high = bounded(low, math.floor(out) + chance.choice([-1, 0, 0, 1, 5]), 999)
        units.append(Unit(unit.name, unit.bus, low, high, unit.share))
    return Grid(grid.buses, lines, units, grid.loads)


def some_states(seed):
    """Grids with cases and points, where bounds are often met exactly."""
    chance = random.Random(seed)
    for k, grid in enumerate(shared_grids(seed, 90) + made_grids(seed, 30)):
        sizes, outs = even_numbers(chance, grid, -20 if k % 3 == 0 else 0, 60)
        every = cases(grid)
        for case in [every[0], chance.choice(every), every[-1]]:
            yield tight(chance, grid, case, sizes, outs), case, sizes, outs


def expected_harms(grid, case, sizes, outs):
    state = after(grid, case, sizes, outs)
    found = []
    for island, need, weight in zip(state.islands, state.needs, state.weights):
        if weight == 0 and need != 0:
            found.append(("left", island[0], need))
    for unit, out in zip(state.grid.units, state.outs):
        if not unit.low <= value(out) <= unit.high:
            found.append(("range", unit.name, out))
    for line, flow in zip(state.grid.lines, state.flows):
        if flow is not None and abs(value(flow)) > line.limit:
            found.append(("over", line.name, flow))
    return found


class Harms(unittest.TestCase):
    def assert_kinds(self, found):
        self.assertIs(type(found), list)
        for harm in found:
            self.assertIs(type(harm), tuple)
            self.assertEqual(len(harm), 3)
            if harm[0] == "left":
                self.assertIs(type(harm[2]), int)
            else:
                assert_fraction(self, harm[2], value(harm[2]))

    def test_made_states(self):
        seen = {"left": 0, "range": 0, "over": 0, "none": 0, "all": 0}
        for grid, case, sizes, outs in some_states(81):
            before, given = view(grid), (list(sizes), list(outs))
            for name in [case] + cases(grid)[::4]:
                found, expected = harms(grid, name, sizes, outs), expected_harms(grid, name, sizes, outs)
                self.assert_kinds(found)
                self.assertEqual(found, expected)
                kinds = {harm[0] for harm in expected}
                for kind in kinds or {"none"}:
                    seen[kind] += 1
                seen["all"] += len(kinds) == 3
                found.append("X")
                found.reverse()
                self.assertEqual(harms(grid, name, sizes, outs), expected)
            self.assertEqual((view(grid), (sizes, outs)), (before, given))
        self.assertGreater(min(seen.values()), 10)

    def test_limits(self):
        for a, b, sign in ((0, 1, 1), (1, 0, -1)):
            for size in (-7, 7):
                for limit, is_harm in ((0, True), (6, True), (7, False), (8, False), (9999, False)):
                    lines, units = [Line("ab", a, b, 3, limit)], [Unit("u", 0, 0, 99, 1)]
                    grid = Grid(2, lines, units, [Load("d", 1), Load("e", 0)])
                    expected = [("over", "ab", (sign * size, 1))] if is_harm else []
                    self.assertEqual(harms(grid, "-", [size, 10 - size], [10]), expected)

    def test_limits_of_fractions(self):
        for limit, names in ((3, ["a", "b"]), (4, ["b"]), (6, ["b"]), (7, [])):
            lines = [Line("a", 0, 1, 1, limit), Line("b", 1, 0, 2, limit)]
            grid = Grid(2, lines, [Unit("u", 0, 0, 99, 1)], [Load("d", 1)])
            carried = {"a": (10, 3), "b": (-20, 3)}
            self.assertEqual(harms(grid, "-", [10], [10]), [("over", name, carried[name]) for name in names])
            expected = [("over", "a", (10, 1))] if limit < 10 else []
            self.assertEqual(harms(grid, "b", [10], [10]), expected)

    def test_a_line_without_limit(self):
        grid = Grid(2, [Line("a", 0, 1, 1, 0)], [Unit("u", 0, 0, 9, 1), Unit("v", 1, 0, 9, 1)], [Load("d", 1)])
        self.assertEqual(harms(grid, "-", [5], [0, 5]), [])
        self.assertEqual(harms(grid, "-", [5], [1, 4]), [("over", "a", (1, 1))])
        self.assertEqual(harms(grid, "a", [5], [0, 5]), [])
        self.assertEqual(harms(grid, "a", [5], [1, 4]), [])
        self.assertEqual(harms(grid, "v", [5], [0, 5]), [("over", "a", (5, 1))])

    def test_ranges(self):
        for low, high in ((5, 9), (0, 5), (5, 5), (6, 9), (0, 4), (0, 0), (6, 6), (4, 4)):
            units = [Unit("u", 0, low, high, 1), Unit("v", 0, 3, 3, 0)]
            grid = Grid(1, [], units, [Load("d", 0)])
            expected = [] if low <= 5 <= high else [("range", "u", (5, 1))]
            self.assertEqual(harms(grid, "-", [8], [5, 3]), expected)

    def test_ranges_of_fractions(self):
        for low, high in ((2, 3), (0, 2), (3, 9), (2, 2), (3, 3), (0, 3), (2, 9)):
            units = [Unit("x", 0, 0, 9, 1), Unit("u", 0, low, high, 1), Unit("v", 0, 0, 9, 1)]
            grid = Grid(1, [], units, [Load("d", 0)])
            expected = [] if low <= 2 and high >= 3 else [("range", "u", (5, 2))]
            self.assertEqual(harms(grid, "x", [5], [1, 2, 2]), expected)

    def test_outputs_below_zero(self):
        grid = Grid(1, [], [Unit("u", 0, 0, 9, 1), Unit("v", 0, 0, 9, 1)], [Load("d", 0)])
        self.assertEqual(harms(grid, "-", [1], [-1, 2]), [("range", "u", (-1, 1))])
        self.assertEqual(harms(grid, "u", [-1], [1, -2]), [("range", "v", (-1, 1))])

    def test_a_lost_unit_does_no_harm_itself(self):
        grid = Grid(1, [], [Unit("u", 0, 0, 4, 1), Unit("v", 0, 0, 9, 1)], [Load("d", 0)])
        self.assertEqual(harms(grid, "u", [8], [5, 3]), [])
        self.assertEqual(harms(grid, "-", [8], [5, 3]), [("range", "u", (5, 1))])
        self.assertEqual(harms(grid, "v", [8], [5, 3]), [("range", "u", (8, 1))])

    def test_needs_of_islands_of_weight_zero(self):
        lines = [Line("a", 0, 1, 1, 99), Line("b", 2, 1, 1, 99)]
        grid = Grid(3, lines, [Unit("u", 0, 0, 9, 0), Unit("v", 2, 0, 99, 7)], [Load("d", 0)])
        self.assertEqual(harms(grid, "a", [5], [5, 0]), [])
        self.assertEqual(harms(grid, "a", [6], [5, 1]), [("left", 0, 1)])
        self.assertEqual(harms(grid, "a", [4], [5, -1]), [("left", 0, -1)])
        self.assertEqual(harms(grid, "v", [6], [5, 1]), [("left", 0, 1)])
        self.assertEqual(harms(grid, "v", [5], [5, 0]), [])

    def test_all_kinds_at_once(self):
        lines = [
            Line("a", 0, 1, 1, 3), Line("b", 3, 2, 1, 3), Line("c", 1, 2, 1, 99), Line("e", 4, 5, 1, 0),
            Line("f", 6, 7, 1, 2),
        ]
        units = [
            Unit("u", 1, 0, 9, 0), Unit("v", 3, 0, 9, 2), Unit("w", 4, 8, 9, 0), Unit("x", 3, 5, 20, 1),
            Unit("y", 6, 0, 1, 3),
        ]
        loads = [Load("d", 0), Load("g", 2), Load("h", 5), Load("i", 7)]
        grid = Grid(8, lines, units, loads)
        found = harms(grid, "c", [12, 8, 7, 6], [10, 4, 7, 6, 6])
        self.assertEqual(found, [
            ("left", 0, 2), ("range", "u", (10, 1)), ("range", "w", (7, 1)), ("range", "y", (6, 1)),
            ("over", "b", (8, 1)), ("over", "e", (7, 1)), ("over", "f", (6, 1)),
        ])
        found = harms(grid, "w", [12, 8, 7, 6], [10, 4, 7, 6, 6])
        self.assertEqual(found, [
            ("left", 4, 7), ("range", "u", (10, 1)), ("range", "y", (6, 1)),
            ("over", "a", (-12, 1)), ("over", "b", (10, 1)), ("over", "f", (6, 1)),
        ])

    def test_several_islands_in_which_something_is_left(self):
        lines = [Line("a", 1, 0, 1, 0), Line("b", 3, 2, 1, 0)]
        grid = Grid(4, lines, [Unit("u", 1, 6, 9, 1), Unit("v", 3, 0, 9, 0)], [Load("d", 0), Load("e", 2)])
        self.assertEqual(harms(grid, "a", [5, 4], [5, 4]), [
            ("left", 0, 5), ("range", "u", (0, 1)), ("over", "b", (4, 1)),
        ])
        self.assertEqual(harms(grid, "b", [5, 4], [5, 4]), [
            ("left", 2, 4), ("left", 3, -4), ("range", "u", (5, 1)), ("over", "a", (5, 1)),
        ])
        self.assertEqual(harms(grid, "u", [5, 4], [5, 4]), [("left", 0, 5), ("over", "b", (4, 1))])

    def test_no_loads_no_units_no_lines(self):
        self.assertEqual(harms(Grid(9, [], [], []), "-", [], []), [])
        self.assertEqual(harms(Grid(1, [], [], [Load("d", 0)]), "-", [0], []), [])
        self.assertEqual(harms(Grid(1, [], [Unit("u", 0, 1, 9, 1)], []), "-", [], [0]), [("range", "u", (0, 1))])
        self.assertEqual(harms(Grid(1, [], [Unit("u", 0, 1, 9, 1)], []), "u", [], [0]), [])


class Harmless(unittest.TestCase):
    def test_made_states(self):
        seen = {True: 0, False: 0}
        for grid, _, sizes, outs in some_states(82):
            self.assert_right(grid, sizes, outs, seen)
        self.assertGreater(seen[True], 3)
        self.assertGreater(seen[False], 50)

    def assert_right(self, grid, sizes, outs, seen):
        before, given = view(grid), (list(sizes), list(outs))
        expected = all(expected_harms(grid, case, sizes, outs) == [] for case in cases(grid))
        self.assertIs(harmless(grid, sizes, outs), expected)
        self.assertEqual((view(grid), (sizes, outs)), (before, given))
        seen[expected] += 1

    def test_each_case_counts(self):
        """Wide limits and ranges, except one that just one case breaks."""
        for limit, is_harmless in ((9, False), (10, True)):
            lines = [Line("a", 0, 1, 1, limit), Line("b", 0, 1, 9, 10)]
            units = [Unit("u", 0, 0, 10, 1), Unit("v", 0, 0, 10, 1)]
            grid = Grid(2, lines, units, [Load("d", 1)])
            self.assertIs(harmless(grid, [10], [5, 5]), is_harmless)
            self.assertIs(harmless(grid, [10], [4, 6]), is_harmless)
        for high, is_harmless in ((9, False), (10, True)):
            for first, second in ((high, 10), (10, high)):
                grid = Grid(1, [], [Unit("u", 0, 0, first, 1), Unit("v", 0, 0, second, 1)], [Load("d", 0)])
                self.assertIs(harmless(grid, [10], [5, 5]), is_harmless)

    def test_the_last_case(self):
        grid = Grid(1, [], [Unit("u", 0, 0, 9, 0), Unit("v", 0, 0, 9, 1), Unit("w", 0, 0, 9, 0)], [Load("d", 0)])
        self.assertIs(harmless(grid, [9], [0, 9, 0]), False)
        self.assertIs(harmless(grid, [9], [5, 0, 4]), True)
        self.assertIs(harmless(grid, [9], [0, 0, 9]), True)
        self.assertIs(harmless(grid, [10], [0, 1, 9]), False)
        self.assertIs(harmless(grid, [10], [1, 0, 9]), True)
        self.assertIs(harmless(grid, [10], [1, 1, 8]), False)

    def test_no_loss(self):
        grid = Grid(1, [], [Unit("u", 0, 5, 9, 1)], [Load("d", 0)])
        self.assertIs(harmless(grid, [0], [0]), False)
        grid = Grid(1, [], [Unit("u", 0, 0, 9, 1)], [Load("d", 0)])
        self.assertIs(harmless(grid, [0], [0]), True)
        self.assertIs(harmless(grid, [1], [1]), False)

    def test_no_parts(self):
        for buses in (1, 9):
            self.assertIs(harmless(Grid(buses, [], [], []), [], []), True)
            self.assertIs(harmless(Grid(buses, [], [], [Load("d", 0)]), [0], []), True)
            self.assertIs(harmless(Grid(buses, [], [Unit("u", 0, 0, 9, 5)], []), [], [0]), True)
            self.assertIs(harmless(Grid(buses, [], [Unit("u", 0, 1, 9, 5)], []), [], [0]), False)


class Errors(unittest.TestCase):
    def test_no_such_case(self):
        chance = random.Random(83)
        for grid in made_grids(83, 40):
            sizes, outs = even_numbers(chance, grid)
            for case in ["", "--", "- ", "zz", "A", "0"] + [load.name for load in grid.loads]:
                for others in (sizes, sizes + [1], [size + 1 for size in sizes]):
                    with self.assertRaises(NoSuch) as caught:
                        harms(grid, case, others, outs)
                    self.assertEqual(caught.exception.name, case)

    def test_misfit(self):
        chance = random.Random(84)
        for grid in made_grids(84, 40):
            sizes, outs = even_numbers(chance, grid)
            before = view(grid)
            for one in (0, 1):
                for few, others in wrong_numbers([size + one for size in sizes], outs, one):
                    given = (list(few), list(others))
                    with self.assertRaises(Misfit):
                        harmless(grid, few, others)
                    for case in cases(grid)[::4]:
                        with self.assertRaises(Misfit):
                            harms(grid, case, few, others)
                    self.assertEqual(((few, others), view(grid)), (given, before))

    def test_uneven(self):
        chance = random.Random(85)
        seen = {}
        for grid in shared_grids(85, 150):
            sizes, outs = even_numbers(chance, grid)
            before = view(grid)
            more = [size + chance.choice([0, 0, 0, 1, -2]) for size in sizes]
            others = [out + chance.choice([0, 0, 0, 1, -2]) for out in outs]
            bus = first_uneven(grid, more, others)
            seen[bus] = True
            if bus is not None:
                given = (list(more), list(others))
                with self.assertRaises(Uneven) as caught:
                    harmless(grid, more, others)
                self.assertEqual(caught.exception.bus, bus)
                for case in cases(grid)[::3]:
                    with self.assertRaises(Uneven) as caught:
                        harms(grid, case, more, others)
                    self.assertEqual(caught.exception.bus, bus)
                self.assertEqual(((more, others), view(grid)), (given, before))
        self.assertGreater(len(seen), 4)
