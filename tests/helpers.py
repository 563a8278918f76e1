"""What several tests need: fractions of Python, made grids, and views of grids."""

import itertools
import math
import random
from fractions import Fraction

from lampward.net.grid import Grid, Line, Load, Unit

NAMES = [letter + digit for letter in "abcdefg" for digit in "0123456789"]


def pair(value):
    """The fraction, as Lampward has it, of a number of Python."""
    exact = Fraction(value)
    return (exact.numerator, exact.denominator)


def value(a):
    return Fraction(a[0], a[1])


def assert_fraction(test, found, expected):
    """The found value is a fraction in lowest terms with the expected value."""
    test.assertIs(type(found), tuple)
    test.assertEqual(len(found), 2)
    for number in found:
        test.assertIs(type(number), int)
    test.assertGreaterEqual(found[1], 1)
    test.assertEqual(math.gcd(found[0], found[1]), 1)
    test.assertEqual(value(found), expected)


def line_view(line):
    return (line.name, line.a, line.b, line.ease, line.limit)


def unit_view(unit):
    return (unit.name, unit.bus, unit.low, unit.high, unit.share)


def load_view(load):
    return (load.name, load.bus)


def view(grid):
    """All fields of a grid, as values that nothing else changes."""
    return (
        grid.buses,
        tuple(line_view(line) for line in grid.lines),
        tuple(unit_view(unit) for unit in grid.units),
        tuple(load_view(load) for load in grid.loads),
    )


def spoil(lines, units, loads):
    """Change all fields of these parts, and the lists themselves."""
    for line in lines:
        line.name, line.a, line.b, line.ease, line.limit = "X", -7, -7, -7, -7
    for unit in units:
        unit.name, unit.bus, unit.low, unit.high, unit.share = "X", -7, -7, -7, -7
    for load in loads:
        load.name, load.bus = "X", -7
    for parts in (lines, units, loads):
        parts.append(None)
        parts.reverse()


def spoil_rows(rows):
    """Change a list of lists, inside and outside."""
    for row in rows:
        row.append("X")
        row.reverse()
    rows.append("X")
    rows.reverse()


def made_parts(chance, buses):
    """Lines, units and loads that keep the rules, for so many buses."""
    names = chance.sample(NAMES, 24)
    lines = []
    for _ in range(chance.randint(0, 12) if buses > 1 else 0):
        a, b = chance.sample(range(buses), 2)
        lines.append(Line(names.pop(), a, b, chance.randint(1, 9), chance.randint(0, 9999)))
    units = []
    for _ in range(chance.randint(0, 6)):
        low = chance.randint(0, 999)
        bus = chance.randrange(buses)
        units.append(Unit(names.pop(), bus, low, chance.randint(low, 999), chance.randint(0, 9)))
    loads = [Load(names.pop(), chance.randrange(buses)) for _ in range(chance.randint(0, 6))]
    return lines, units, loads


def made_grid(chance, buses=None):
    if buses is None:
        buses = chance.randint(1, 9)
    return Grid(buses, *made_parts(chance, buses))


def made_grids(seed, many):
    """Grids of all sizes, the same ones each time for the same seed."""
    chance = random.Random(seed)
    return [made_grid(chance, 1 + k % 9) for k in range(many)]


def wired(buses, ends):
    """A grid that has only lines: pairs of buses, or with an ease as the third."""
    lines = []
    for k, end in enumerate(ends):
        ease = end[2] if len(end) > 2 else 1
        lines.append(Line(NAMES[k], end[0], end[1], ease, 10))
    return Grid(buses, lines, [], [])


def connected(grid):
    """For each bus the list of the buses that are connected with it, found the slow way."""
    reached = [[a == b for b in range(grid.buses)] for a in range(grid.buses)]
    for line in grid.lines:
        reached[line.a][line.b] = reached[line.b][line.a] = True
    for k in range(grid.buses):
        for a in range(grid.buses):
            for b in range(grid.buses):
                reached[a][b] = reached[a][b] or (reached[a][k] and reached[k][b])
    return [[b for b in range(grid.buses) if row[b]] for row in reached]


def island_lists(grid):
    """The islands of a grid, found the slow way."""
    lists = connected(grid)
    return [lists[bus] for bus in range(grid.buses) if lists[bus][0] == bus]


def with_shares(chance, grid, shares):
    """The same grid, with shares that are taken from these."""
    units = [Unit(unit.name, unit.bus, unit.low, unit.high, chance.choice(shares)) for unit in grid.units]
    return Grid(grid.buses, grid.lines, units, grid.loads)


def shared_grids(seed, many):
    """Made grids in which islands of weight 0 and units of share 0 are frequent."""
    chance = random.Random(seed)
    found = []
    for k, grid in enumerate(made_grids(seed, many)):
        few = Grid(grid.buses, grid.lines[:chance.choice([2, 4, 7, 12])], grid.units, grid.loads)
        found.append(with_shares(chance, few, [[0], [0, 1], [0, 0, 0, 9], [1, 2, 3], range(10)][k % 5]))
    return found


def at_island(parts, island):
    """The places, in the list of loads or units, of those that stand in the island."""
    return [k for k, part in enumerate(parts) if part.bus in island]


def differences(grid, sizes, outs):
    """For each island the sum of its sizes minus the sum of its outputs."""
    found = []
    for island in island_lists(grid):
        taken = sum(sizes[k] for k in at_island(grid.loads, island))
        found.append(taken - sum(outs[k] for k in at_island(grid.units, island)))
    return found


def first_uneven(grid, sizes, outs):
    """The first bus of the first island whose sums differ, or None."""
    for island, difference in zip(island_lists(grid), differences(grid, sizes, outs)):
        if difference != 0:
            return island[0]
    return None


def even_numbers(chance, grid, low=-60, high=60):
    """Sizes and outputs that are even: numbers from low to high, except one of each island."""
    sizes = [chance.randint(low, high) for _ in grid.loads]
    outs = [chance.randint(low, high) for _ in grid.units]
    for island, difference in zip(island_lists(grid), differences(grid, sizes, outs)):
        loads, units = at_island(grid.loads, island), at_island(grid.units, island)
        if loads and (not units or chance.random() < 0.5):
            sizes[chance.choice(loads)] -= difference
        elif units:
            outs[chance.choice(units)] += difference
    return sizes, outs


def points_of(rows, others):
    """All points of a box with these ranges."""
    many = len(rows)
    for numbers in itertools.product(*[range(low, high + 1) for low, high in rows + others]):
        yield list(numbers[:many]), list(numbers[many:])


def even_points_of(grid, rows, others):
    """All even points of a box with these ranges."""
    return [point for point in points_of(rows, others) if not any(differences(grid, *point))]


def made_ranges(chance, many, most=999):
    rows = []
    for _ in range(many):
        low = chance.randint(0, most)
        rows.append((low, chance.randint(low, most)))
    return rows


def ranges_in(chance, units):
    """For each unit a range within its own."""
    rows = []
    for unit in units:
        low = chance.randint(unit.low, unit.high)
        rows.append((low, chance.randint(low, unit.high)))
    return rows


def ranges_of(box):
    return (tuple(box.sizes), tuple(box.outs))


def small_grid(chance, most=4, parts=5):
    """A grid with few loads and units, whose ranges are short."""
    buses = chance.choice([1, 1, 2, 2, 3, 4])
    lines = []
    for k in range(chance.randint(0, 3 * buses - 3)):
        a, b = chance.sample(range(buses), 2)
        lines.append(Line("l" + str(k), a, b, chance.randint(1, 9), chance.randint(0, 5)))
    many = chance.choice([0, 1, 3, parts - 1, parts, parts])
    units = []
    for k in range(chance.choice([many // 2, chance.randint(0, many)])):
        low = chance.choice([0, chance.randint(0, most)])
        high = chance.choice([most, chance.randint(low, most)])
        units.append(Unit("u" + str(k), chance.randrange(buses), low, high, chance.randint(0, 3)))
    loads = [Load("d" + str(k), chance.randrange(buses)) for k in range(many - len(units))]
    return Grid(buses, lines, units, loads)


def small_box(chance, grid, most=4):
    """Short ranges that fit the grid; those of the units are often their own."""
    sizes = [chance.choice([(0, most), row]) for row in made_ranges(chance, len(grid.loads), most)]
    outs = ranges_in(chance, grid.units)
    return sizes, [chance.choice([(unit.low, unit.high), row]) for unit, row in zip(grid.units, outs)]


def misfits(grid):
    """Ranges that do not fit the grid: too many, too few, or beyond a unit's own range."""
    sizes = [(0, 999)] * len(grid.loads)
    outs = [(unit.low, unit.high) for unit in grid.units]
    found = [(sizes + [(0, 0)], outs), (sizes, outs + [(0, 0)]), (outs + sizes + [(1, 1)], [(0, 0)] * 7)]
    if sizes:
        found += [(sizes[1:], outs), (sizes[1:], outs + [(0, 0)])]
    if outs:
        found += [(sizes, outs[1:]), (sizes + [(0, 0)], outs[1:])]
    for k, unit in enumerate(grid.units):
        if unit.high < 999:
            found.append((sizes, outs[:k] + [(unit.low, unit.high + 1)] + outs[k + 1:]))
            found.append((sizes, outs[:k] + [(999, 999)] + outs[k + 1:]))
        if unit.low > 0:
            found.append((sizes, outs[:k] + [(unit.low - 1, unit.high)] + outs[k + 1:]))
    return found


def wrong_numbers(sizes, outs, one):
    """The lists with one too many or too few, in one of them or in both; `one` is what is added."""
    found = [(sizes + [one], outs), (sizes, outs + [one]), (sizes + [one], outs + [one])]
    if sizes:
        found += [(sizes[1:], outs), (sizes[:-1], outs + [one]), ([], outs)]
    if outs:
        found += [(sizes, outs[1:]), (sizes + [one], outs[:-1]), (sizes, [])]
    return found


def made_weights(chance, grid, few=False):
    """Weights, as fractions of Python: few different ones, so that many are equal, opposite or 0, or many."""
    def made():
        if few:
            return Fraction(chance.choice([-1, -1, 0, 0, 1, 1, 2]))
        return Fraction(chance.randint(-20, 20), chance.randint(1, 6))
    return [made() for _ in grid.loads], [made() for _ in grid.units]


def pairs(weights):
    """The weights, as Lampward has them."""
    return [pair(weight) for weight in weights[0]], [pair(weight) for weight in weights[1]]


def slow_sum(weights, sizes, outs):
    return sum((weight * number for weight, number in zip(weights[0] + weights[1], sizes + outs)), Fraction(0))


def slow_bound(grid, sizes, outs, weights, prices):
    """The bound of prices, from ranges, and from weights and prices as fractions of Python."""
    parts = island_lists(grid)
    found = Fraction(0)
    for sign, places, ranges, numbers in ((-1, grid.loads, sizes, weights[0]), (1, grid.units, outs, weights[1])):
        for place, row, weight in zip(places, ranges, numbers):
            price = prices[[place.bus in island for island in parts].index(True)]
            found += max((weight + sign * price) * end for end in row)
    return found


def sturdy_grid(chance, most=9, limits=(1, 3, 6, 9, 15, 30), groups=None):
    """A grid that often bears losses: islands of one to three buses in a ring, each with units of wide ranges."""
    lines, units, loads, buses = [], [], [], 0
    for _ in range(groups or chance.choice([1, 1, 1, 2])):
        many = chance.choice([1, 2, 2, 3])
        ends = [(k, (k + 1) % many) for k in range(many)] if many > 1 else []
        for a, b in ends + chance.sample(ends, min(len(ends), chance.choice([0, 0, 1]))):
            name = "l" + str(len(lines))
            lines.append(Line(name, buses + a, buses + b, chance.randint(1, 3), chance.choice(limits)))
        for _ in range(chance.choice([2, 2, 3])):
            high = chance.choice([most, most, chance.randint(3, most)])
            units.append(Unit("u" + str(len(units)), buses + chance.randrange(many), 0, high, chance.randint(1, 3)))
        for _ in range(chance.choice([1, 1, 2])):
            loads.append(Load("d" + str(len(loads)), buses + chance.randrange(many)))
        buses += many
    return Grid(buses, lines, units, loads)


def point_within(chance, grid, low=1, high=4):
    """An even point whose outputs are from low to high, as far as the units' ranges allow it."""
    outs = [min(max(chance.randint(low, high), unit.low), unit.high) for unit in grid.units]
    sizes = [0] * len(grid.loads)
    for island in island_lists(grid):
        loads = at_island(grid.loads, island)
        for k in at_island(grid.units, island):
            if loads:
                for _ in range(outs[k]):
                    sizes[chance.choice(loads)] += 1
            else:
                outs[k] = grid.units[k].low
    return sizes, outs


def ranges_around(chance, grid, sizes, outs, width=2):
    """Ranges that contain the point, of at most this width to each side."""
    rows = [(max(0, n - chance.randint(0, width)), min(999, n + chance.randint(0, width))) for n in sizes]
    others = []
    for unit, n in zip(grid.units, outs):
        others.append((max(unit.low, n - chance.randint(0, width)), min(unit.high, n + chance.randint(0, width))))
    return rows, others
