"""What several tests need: fractions of Python, made grids, and views of grids."""

import math
import random
from fractions import Fraction

from lampward.net.grid import Grid, Line, Load, Unit

NAMES = [letter + digit for letter in "abcdefg" for digit in "0123456789"]


def pair(value):
    """The fraction, as Lampward has it, of a number of Python."""
    exact = Fraction(value)
    return (exact.numerator, exact.denominator)


def value(a):
    return Fraction(a[0], a[1])


def assert_fraction(test, found, expected):
    """The found value is a fraction in lowest terms with the expected value."""
    test.assertIs(type(found), tuple)
    test.assertEqual(len(found), 2)
    for number in found:
        test.assertIs(type(number), int)
    test.assertGreaterEqual(found[1], 1)
    test.assertEqual(math.gcd(found[0], found[1]), 1)
    test.assertEqual(value(found), expected)


def line_view(line):
    return (line.name, line.a, line.b, line.ease, line.limit)


def unit_view(unit):
    return (unit.name, unit.bus, unit.low, unit.high, unit.share)


def load_view(load):
    return (load.name, load.bus)


def view(grid):
    """All fields of a grid, as values that nothing else changes."""
    return (
        grid.buses,
        tuple(line_view(line) for line in grid.lines),
        tuple(unit_view(unit) for unit in grid.units),
        tuple(load_view(load) for load in grid.loads),
    )


def spoil(lines, units, loads):
    """Change all fields of these parts, and the lists themselves."""
    for line in lines:
        line.name, line.a, line.b, line.ease, line.limit = "X", -7, -7, -7, -7
    for unit in units:
        unit.name, unit.bus, unit.low, unit.high, unit.share = "X", -7, -7, -7, -7
    for load in loads:
        load.name, load.bus = "X", -7
    for parts in (lines, units, loads):
        parts.append(None)
        parts.reverse()


def spoil_rows(rows):
    """Change a list of lists, inside and outside."""
    for row in rows:
        row.append("X")
        row.reverse()
    rows.append("X")
    rows.reverse()


def made_parts(chance, buses):
    """Lines, units and loads that keep the rules, for so many buses."""
    names = chance.sample(NAMES, 24)
    lines = []
    for _ in range(chance.randint(0, 12) if buses > 1 else 0):
        a, b = chance.sample(range(buses), 2)
        lines.append(Line(names.pop(), a, b, chance.randint(1, 9), chance.randint(0, 9999)))
    units = []
    for _ in range(chance.randint(0, 6)):
        low = chance.randint(0, 999)
        bus = chance.randrange(buses)
        units.append(Unit(names.pop(), bus, low, chance.randint(low, 999), chance.randint(0, 9)))
    loads = [Load(names.pop(), chance.randrange(buses)) for _ in range(chance.randint(0, 6))]
    return lines, units, loads


def made_grid(chance, buses=None):
    if buses is None:
        buses = chance.randint(1, 9)
    return Grid(buses, *made_parts(chance, buses))


def made_grids(seed, many):
    """Grids of all sizes, the same ones each time for the same seed."""
    chance = random.Random(seed)
    return [made_grid(chance, 1 + k % 9) for k in range(many)]


def wired(buses, ends):
    """A grid that has only lines: pairs of buses, or with an ease as the third."""
    lines = []
    for k, end in enumerate(ends):
        ease = end[2] if len(end) > 2 else 1
        lines.append(Line(NAMES[k], end[0], end[1], ease, 10))
    return Grid(buses, lines, [], [])


def connected(grid):
    """For each bus the list of the buses that are connected with it, found the slow way."""
    reached = [[a == b for b in range(grid.buses)] for a in range(grid.buses)]
    for line in grid.lines:
        reached[line.a][line.b] = reached[line.b][line.a] = True
    for k in range(grid.buses):
        for a in range(grid.buses):
            for b in range(grid.buses):
                reached[a][b] = reached[a][b] or (reached[a][k] and reached[k][b])
    return [[b for b in range(grid.buses) if row[b]] for row in reached]


def island_lists(grid):
    """The islands of a grid, found the slow way."""
    lists = connected(grid)
    return [lists[bus] for bus in range(grid.buses) if lists[bus][0] == bus]
