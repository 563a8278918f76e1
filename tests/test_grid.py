import random
import string
import unittest

from lampward.errors import BadGrid
from lampward.net.grid import Grid, Line, Load, Unit, is_name
from tests.helpers import line_view, load_view, made_parts, spoil, unit_view, view

BIG = 10 ** 60 - 1
BAD_NAMES = [
    "", "A", "1", "1a", "a_b", "a b", "a-b", " a", "a ", "a\n", "\na", "-", "aB", "a.",
    "abcdefg", "a123456", "x" * 1000,
]


def some_lines(many):
    return [Line("l" + str(k), k % 2, 1 - k % 2, 1 + k % 9, k) for k in range(many)]


def some_units(many):
    return [Unit("u" + str(k), k % 2, k, 10 + k, k % 10) for k in range(many)]


def some_loads(many):
    return [Load("d" + str(k), k % 2) for k in range(many)]


class Names(unittest.TestCase):
    def test_lengths(self):
        for many in range(1, 7):
            self.assertIs(is_name("a" * many), True)
            self.assertIs(is_name("z" + "9" * (many - 1)), True)
        for many in (0, 7, 8, 100, 200000):
            self.assertIs(is_name("a" * many), False)

    def test_every_sign_as_first_one_and_as_a_later_one(self):
        for code in [10] + list(range(32, 127)):
            sign = chr(code)
            if sign == "\x25":
                continue
            is_letter = sign in string.ascii_lowercase
            is_sign = is_letter or sign in string.digits
            self.assertIs(is_name(sign), is_letter, repr(sign))
            self.assertIs(is_name(sign + "a"), is_letter, repr(sign))
            self.assertIs(is_name("a" + sign), is_sign, repr(sign))
            self.assertIs(is_name("ab" + sign + "1"), is_sign, repr(sign))
            self.assertIs(is_name("abcd1" + sign), is_sign, repr(sign))

    def test_some_that_are_none(self):
        for text in BAD_NAMES:
            self.assertIs(is_name(text), False, repr(text[:20]))


class PartsByThemselves(unittest.TestCase):
    def test_fields(self):
        self.assertEqual(line_view(Line("ab", 1, 2, 3, 40)), ("ab", 1, 2, 3, 40))
        self.assertEqual(unit_view(Unit("g1", 1, 2, 3, 4)), ("g1", 1, 2, 3, 4))
        self.assertEqual(load_view(Load("l1", 5)), ("l1", 5))

    def test_nothing_is_checked(self):
        self.assertEqual(line_view(Line("", -1, -1, 0, -BIG)), ("", -1, -1, 0, -BIG))
        self.assertEqual(unit_view(Unit("A B", 99, 9, 3, BIG)), ("A B", 99, 9, 3, BIG))
        self.assertEqual(load_view(Load("-", -5)), ("-", -5))


class GoodGrids(unittest.TestCase):
    def assert_kept(self, buses, lines, units, loads):
        before = (
            buses, tuple(line_view(line) for line in lines),
            tuple(unit_view(unit) for unit in units), tuple(load_view(load) for load in loads),
        )
        grid = Grid(buses, lines, units, loads)
        self.assertEqual(view(grid), before)
        for parts, kind in ((grid.lines, Line), (grid.units, Unit), (grid.loads, Load)):
            self.assertIs(type(parts), list)
            for part in parts:
                self.assertIsInstance(part, kind)
        spoil(lines, units, loads)
        self.assertEqual(view(grid), before)

    def test_only_buses(self):
        for buses in range(1, 10):
            self.assert_kept(buses, [], [], [])

    def test_as_many_as_a_grid_may_have(self):
        self.assert_kept(2, some_lines(12), some_units(6), some_loads(6))
        self.assert_kept(9, some_lines(12), some_units(6), some_loads(6))

    def test_ends_of_ranges(self):
        lines = [
            Line("a", 0, 8, 1, 0), Line("b", 8, 0, 9, 9999), Line("zzzzzz", 0, 8, 9, 0), Line("z99999", 7, 8, 1, 9999),
        ]
        units = [Unit("c", 0, 0, 0, 0), Unit("d", 8, 999, 999, 9), Unit("e", 8, 0, 999, 5), Unit("f", 0, 500, 500, 1)]
        self.assert_kept(9, lines, units, [Load("g", 0), Load("h", 8), Load("i", 8)])

    def test_one_bus(self):
        self.assert_kept(1, [], [Unit("u", 0, 0, 5, 1), Unit("v", 0, 0, 5, 1)], [Load("l", 0), Load("m", 0)])

    def test_several_between_and_at_the_same_buses(self):
        lines = [Line("a", 0, 1, 1, 1), Line("b", 0, 1, 1, 1), Line("c", 1, 0, 1, 1)]
        units = [Unit("u", 1, 0, 5, 1), Unit("v", 1, 0, 5, 1)]
        self.assert_kept(2, lines, units, [Load("l", 1), Load("m", 1)])

    def test_made_grids(self):
        chance = random.Random(4)
        for k in range(100):
            buses = 1 + k % 9
            self.assert_kept(buses, *made_parts(chance, buses))

    def test_two_grids_of_the_same_lists(self):
        lines, units, loads = some_lines(3), some_units(2), some_loads(2)
        first, second = Grid(2, lines, units, loads), Grid(2, lines, units, loads)
        before = view(first)
        spoil(second.lines, second.units, second.loads)
        self.assertEqual(view(first), before)
        self.assertEqual(view(Grid(2, lines, units, loads)), before)


class BadGrids(unittest.TestCase):
    def assert_bad(self, kind, number, buses, lines, units, loads):
        before = [list(map(line_view, lines)), list(map(unit_view, units)), list(map(load_view, loads))]
        with self.assertRaises(BadGrid) as caught:
            Grid(buses, lines, units, loads)
        self.assertEqual((caught.exception.kind, caught.exception.number), (kind, number))
        after = [list(map(line_view, lines)), list(map(unit_view, units)), list(map(load_view, loads))]
        self.assertEqual(after, before)

    def assert_bad_line(self, line):
        """The line is wrong as the first one, behind others, and before others."""
        self.assert_bad("line", 0, 9, [line], [], [])
        self.assert_bad("line", 3, 9, some_lines(3) + [line], some_units(2), some_loads(2))
        self.assert_bad("line", 11, 9, some_lines(11) + [line], [], [])
        self.assert_bad("line", 1, 9, some_lines(1) + [line] + some_lines(5)[1:], [], [])

    def assert_bad_unit(self, unit):
        self.assert_bad("unit", 0, 9, [], [unit], [])
        self.assert_bad("unit", 5, 9, some_lines(2), some_units(5) + [unit], some_loads(1))
        self.assert_bad("unit", 1, 9, [], some_units(1) + [unit] + some_units(4)[1:], [])

    def assert_bad_load(self, load):
        self.assert_bad("load", 0, 9, [], [], [load])
        self.assert_bad("load", 5, 9, some_lines(2), some_units(2), some_loads(5) + [load])
        self.assert_bad("load", 1, 9, [], [], some_loads(1) + [load] + some_loads(4)[1:])

    def test_number_of_buses(self):
        for buses in (0, 10, 11, -1, -9, BIG, -BIG):
            self.assert_bad("bus", 0, buses, [], [], [])
            self.assert_bad("bus", 0, buses, some_lines(13), some_units(7), some_loads(7))
            self.assert_bad("bus", 0, buses, [Line("", 3, 3, 0, 0)], [], [])

    def test_too_many(self):
        for many in (13, 14, 40):
            self.assert_bad("line", 12, 2, some_lines(many), [], [])
        for many in (7, 8, 40):
            self.assert_bad("unit", 6, 2, some_lines(12), some_units(many), [])
            self.assert_bad("load", 6, 2, some_lines(12), some_units(6), some_loads(many))

    def test_too_many_and_another_fault(self):
        wrong = Line("", 0, 0, 0, 0)
        self.assert_bad("line", 12, 2, some_lines(12) + [wrong], [Unit("", 0, 0, 0, 0)], [])
        self.assert_bad("line", 2, 2, some_lines(2) + [wrong] + some_lines(14)[2:], [], [])
        self.assert_bad("line", 12, 2, some_lines(13), some_units(7), some_loads(7))
        self.assert_bad("unit", 6, 2, [], some_units(7), some_loads(7))

    def test_names(self):
        for name in BAD_NAMES:
            self.assert_bad_line(Line(name, 0, 1, 1, 1))
            self.assert_bad_unit(Unit(name, 0, 0, 1, 1))
            self.assert_bad_load(Load(name, 0))

    def test_numbers_of_lines(self):
        for ease in (0, 10, -1, BIG, -BIG):
            self.assert_bad_line(Line("x", 0, 1, ease, 5))
        for limit in (-1, 10000, BIG, -BIG):
            self.assert_bad_line(Line("x", 0, 1, 5, limit))

    def test_ends_of_lines(self):
        for bus in (-1, 9, 10, -9, BIG, -BIG):
            self.assert_bad_line(Line("x", bus, 1, 1, 1))
            self.assert_bad_line(Line("x", 1, bus, 1, 1))
            self.assert_bad_line(Line("x", bus, bus, 1, 1))
        for bus in range(9):
            self.assert_bad_line(Line("x", bus, bus, 1, 1))
        self.assert_bad("line", 0, 1, [Line("x", 0, 1, 1, 1)], [], [])
        self.assert_bad("line", 0, 1, [Line("x", 0, 0, 1, 1)], [], [])
        self.assert_bad("line", 0, 2, [Line("x", 2, 0, 1, 1)], [], [])

    def test_numbers_of_units(self):
        ranges = [(-1, 5), (-1, -1), (5, 4), (1, 0), (999, 998), (0, 1000), (1000, 1000), (BIG, BIG), (-BIG, 9)]
        for low, high in ranges:
            self.assert_bad_unit(Unit("x", 0, low, high, 1))
        for share in (-1, 10, BIG, -BIG):
            self.assert_bad_unit(Unit("x", 0, 0, 1, share))

    def test_buses_of_units_and_loads(self):
        for bus in (-1, 9, 10, -9, BIG, -BIG):
            self.assert_bad_unit(Unit("x", bus, 0, 1, 1))
            self.assert_bad_load(Load("x", bus))
        for buses in range(1, 10):
            self.assert_bad("unit", 0, buses, [], [Unit("x", buses, 0, 1, 1)], [])
            self.assert_bad("load", 0, buses, [], [], [Load("x", buses)])

    def test_a_name_twice(self):
        self.assert_bad("line", 3, 2, some_lines(3) + [Line("l0", 0, 1, 1, 1)], [], [])
        self.assert_bad("line", 2, 2, some_lines(2) + [Line("l1", 0, 1, 1, 1)], [], [])
        self.assert_bad("unit", 3, 2, [], some_units(3) + [Unit("u0", 0, 1, 1, 1)], [])
        self.assert_bad("unit", 1, 2, [], some_units(1) + [Unit("u0", 0, 1, 1, 1)], [])
        self.assert_bad("load", 3, 2, [], [], some_loads(3) + [Load("d0", 0)])
        self.assert_bad("load", 2, 2, [], [], some_loads(2) + [Load("d1", 0)])

    def test_a_name_of_two_kinds(self):
        for name in ("l0", "l4", "l9"):
            self.assert_bad("unit", 2, 2, some_lines(10), some_units(2) + [Unit(name, 0, 1, 1, 1)], [])
            self.assert_bad("load", 2, 2, some_lines(10), [], some_loads(2) + [Load(name, 0)])
        for name in ("u0", "u3"):
            self.assert_bad("load", 4, 2, some_lines(1), some_units(4), some_loads(4) + [Load(name, 1)])

    def test_several_names_twice(self):
        lines = some_lines(2)
        self.assert_bad("unit", 1, 2, lines, [Unit("q", 0, 0, 0, 0), Unit("l1", 0, 0, 0, 0)], [Load("q", 0)])
        self.assert_bad("load", 0, 2, lines, some_units(2), [Load("u1", 0), Load("l0", 0)])
        self.assert_bad("line", 2, 2, lines + lines, some_units(2) + some_units(2), some_loads(2))

    def test_the_first_of_several_faults(self):
        wrong_line, wrong_unit, wrong_load = Line("x", 0, 0, 1, 1), Unit("y", 0, 2, 1, 1), Load("z", -1)
        self.assert_bad("line", 1, 2, some_lines(1) + [wrong_line], [wrong_unit], [wrong_load])
        self.assert_bad("unit", 1, 2, some_lines(1), some_units(1) + [wrong_unit], [wrong_load])
        self.assert_bad("load", 1, 2, some_lines(1), some_units(1), some_loads(1) + [wrong_load])
        self.assert_bad("line", 0, 2, [wrong_line, Line("", 5, 5, 0, -1), wrong_line], [], [])
        self.assert_bad("line", 0, 2, [Line("X", 0, 1, 1, 1), Line("a", 0, 0, 0, -1)], [], [])
        self.assert_bad("line", 0, 2, [Line("a", 0, 1, 1, -1), Line("A", 0, 1, 1, 1)], [], [])
        self.assert_bad("line", 0, 2, [Line("a", 0, 2, 1, 1), Line("b", 0, 1, 0, 1), Line("a", 0, 1, 1, 1)], [], [])
        self.assert_bad("unit", 0, 2, [], [Unit("a", 0, 0, 1, 10), Unit("", 0, 0, 1, 1)], [])
        self.assert_bad("unit", 0, 2, [], [Unit("a", 2, 0, 1, 1), Unit("b", 0, 3, 1, 1)], [])
        self.assert_bad("load", 0, 2, [], [], [Load("a", 2), Load("", 0)])

    def test_made_faults(self):
        chance = random.Random(5)
        for k in range(300):
            buses = 2 + k % 8
            lines, units, loads = made_parts(chance, buses)
            places = []
            for kind, parts in (("line", lines), ("unit", units), ("load", loads)):
                for number, part in enumerate(parts):
                    if chance.random() < 0.1:
                        places.append((kind, number))
                        self.harm(chance, kind, part, buses)
            if places:
                self.assert_bad(*places[0], buses, lines, units, loads)
            else:
                Grid(buses, lines, units, loads)

    def harm(self, chance, kind, part, buses):
        faults = [("name", ["", "9a", "abcdefg", "aZ"])]
        if kind == "line":
            faults += [("a", [-1, buses, part.b]), ("b", [-1, buses, part.a])]
            faults += [("ease", [0, 10]), ("limit", [-1, 10000])]
        else:
            faults += [("bus", [-1, buses])]
        if kind == "unit":
            faults += [("low", [-1, part.high + 1]), ("high", [1000, part.low - 1]), ("share", [-1, 10])]
        field, wrong = chance.choice(faults)
        setattr(part, field, chance.choice(wrong))
