import random
import unittest

from lampward.box.boxes import Box
from lampward.errors import BadText, Misfit
from lampward.net.grid import Grid, Line, Load, Unit
from lampward.text.boxes import read_box, write_box
from tests.helpers import made_grids, made_ranges, misfits, ranges_in, ranges_of, view

SIGNS = [chr(code) for code in range(32, 127) if chr(code) != "%"] + ["\n"]
BAD_RANGES = [
    "", "5", "..", "5..", "..5", "5.6", "5...6", "5....6", "5..6..7", "5 ..6", "5.. 6", "5 .. 6", "5..6 ", "6..5",
    "05..6", "5..06", "00..6", "+5..6", "5..+6", "-5..6", "-0..6", "-1..6", "5..-6", "5..1000", "1000..1000",
    "999..998", "5..6.", ".5..6", "5,6", "5-6", "(5, 6)", "a..b", "5..a", "5x..6", "0x5..6", "1_0..20", "5/1..6",
    "5..6/1", "5.0..6", "5e0..6", "5.." + "9" * 61, "0" * 70 + "5..6", "5..1" + "0" * 5000, "1" * 5000 + "..6",
    "one..two",
]


def text_of(grid, sizes, outs):
    rows = [f"load {load.name} {low}..{high}" for load, (low, high) in zip(grid.loads, sizes)]
    rows += [f"unit {unit.name} {low}..{high}" for unit, (low, high) in zip(grid.units, outs)]
    return "".join(row + "\n" for row in rows)


def some_grid():
    """A grid whose parts do not stand in the order of their names."""
    lines = [Line("ab", 0, 1, 1, 9)]
    units = [Unit("g2", 0, 10, 60, 1), Unit("g1", 1, 0, 999, 1), Unit("u", 1, 7, 7, 1)]
    return Grid(2, lines, units, [Load("l3", 1), Load("l1", 0), Load("m", 0)])


SIZES = [(0, 40), (2, 2), (999, 999)]
OUTS = [(10, 60), (0, 999), (7, 7)]
ROWS = [
    "load l3 0..40", "load l1 2..2", "load m 999..999", "unit g2 10..60", "unit g1 0..999", "unit u 7..7",
]


class Writing(unittest.TestCase):
    def assert_text(self, grid, sizes, outs):
        box, before = Box(sizes, outs), view(grid)
        text = write_box(grid, box)
        self.assertIs(type(text), str)
        self.assertEqual(text, text_of(grid, sizes, outs))
        found = read_box(grid, text)
        self.assertIsInstance(found, Box)
        self.assertEqual(found, box)
        for rows in ranges_of(found):
            for row in rows:
                self.assertIs(type(row), tuple)
        found.sizes.append("X")
        found.outs.insert(0, "X")
        self.assertEqual(read_box(grid, text), box)
        self.assertEqual((ranges_of(box), view(grid)), ((tuple(sizes), tuple(outs)), before))

    def test_made_boxes(self):
        chance = random.Random(71)
        for grid in made_grids(71, 180):
            for most in (12, 999):
                self.assert_text(grid, made_ranges(chance, len(grid.loads), most), ranges_in(chance, grid.units))

    def test_known_one(self):
        text = "\n".join(ROWS) + "\n"
        self.assertEqual(write_box(some_grid(), Box(SIZES, OUTS)), text)
        self.assertEqual(read_box(some_grid(), text), Box(SIZES, OUTS))
        self.assert_text(some_grid(), SIZES, OUTS)

    def test_ends(self):
        grid = Grid(1, [], [Unit("u", 0, 9, 100, 1)], [Load("d", 0)])
        for size in ((0, 0), (0, 999), (999, 999), (9, 10), (99, 100)):
            for out in ((9, 9), (9, 100), (100, 100), (10, 99)):
                self.assert_text(grid, [size], [out])

    def test_every_number(self):
        grid = Grid(1, [], [Unit("u", 0, 0, 999, 1)], [Load("d", 0)])
        for number in range(1000):
            text = f"load d {number}..999\nunit u 0..{number}\n"
            self.assertEqual(read_box(grid, text), Box([(number, 999)], [(0, number)]))

    def test_no_loads_no_units(self):
        for buses in (1, 9):
            self.assertEqual(write_box(Grid(buses, [], [], []), Box([], [])), "")
            self.assertEqual(read_box(Grid(buses, [], [], []), ""), Box([], []))
        self.assert_text(Grid(1, [], [], [Load("d", 0)]), [(3, 4)], [])
        self.assert_text(Grid(1, [], [Unit("u", 0, 0, 9, 1)], []), [], [(3, 4)])

    def test_misfit(self):
        for grid in made_grids(72, 60):
            for sizes, outs in misfits(grid):
                box, before = Box(sizes, outs), view(grid)
                with self.assertRaises(Misfit):
                    write_box(grid, box)
                self.assertEqual((ranges_of(box), view(grid)), ((tuple(sizes), tuple(outs)), before))

    def test_empty_boxes_are_written(self):
        grid = Grid(1, [], [Unit("u", 0, 0, 9, 1)], [Load("d", 0)])
        self.assert_text(grid, [(50, 60)], [(0, 1)])


class Reading(unittest.TestCase):
    def assert_bad(self, line, text, grid=None):
        grid = grid or some_grid()
        before = view(grid)
        with self.assertRaises(BadText) as caught:
            read_box(grid, text)
        self.assertEqual(caught.exception.line, line, text[:200])
        self.assertEqual(view(grid), before)

    def assert_bad_at_each_place(self, change):
        """`change` takes a row and returns bad ones in its place."""
        for k, row in enumerate(ROWS):
            for wrong in change(row):
                rows = ROWS[:k] + [wrong] + ROWS[k + 1:]
                self.assert_bad(k + 1, "\n".join(rows) + "\n")
                self.assert_bad(k + 1, "\n".join(rows))
                self.assert_bad(k + 1, "\n".join(rows[:k + 1]) + "\n")
                self.assert_bad(k + 1, "\n".join(rows[:k + 1] + ["nonsense"]) + "\n")

    def test_ranges_that_are_none(self):
        self.assert_bad_at_each_place(lambda row: [row.rpartition(" ")[0] + " " + wrong for wrong in BAD_RANGES])

    def test_words_left_out_doubled_moved_or_replaced(self):
        def changed(row):
            kind, name, numbers = row.split(" ")
            return [
                "", " ", kind, name, numbers, kind + " " + name, kind + " " + numbers, name + " " + numbers,
                kind + " " + name + " ", kind + name + " " + numbers, kind + " " + name + numbers,
                f"{kind} {kind} {name} {numbers}", f"{kind} {name} {name} {numbers}", f"{row} {numbers}",
                f"{name} {kind} {numbers}", f"{numbers} {name} {kind}", f"{kind} {numbers} {name}", row + " " + row,
                f"{kind}  {name} {numbers}", f"{kind} {name}  {numbers}", " " + row, row + " ",
                f"{kind}  {numbers}", f" {name} {numbers}", row + ";", "#" + row, row + " # so",
                f"line {name} {numbers}", f"loads {name} {numbers}", f"Load {name} {numbers}", f"UNIT {name} {numbers}",
                f"{kind} x{name} {numbers}", f"{kind} {name}x {numbers}", f"{kind} zz {numbers}",
                f"{kind} ab {numbers}", f"{kind} {name.upper()} {numbers}",
            ]
        self.assert_bad_at_each_place(changed)

    def test_kinds_exchanged(self):
        other = {"load": "unit", "unit": "load"}
        self.assert_bad_at_each_place(lambda row: [other[row[:4]] + row[4:]])

    def test_names_of_others(self):
        self.assert_bad_at_each_place(lambda row: [wrong for wrong in ROWS if wrong != row])

    def test_names_of_others_with_the_own_range(self):
        names = ["l3", "l1", "m", "g2", "g1", "u", "ab"]

        def changed(row):
            kind, name, numbers = row.split(" ")
            return [f"{kind} {wrong} {numbers}" for wrong in names if wrong != name]
        self.assert_bad_at_each_place(changed)

    def test_beyond_the_own_range_of_the_unit(self):
        rows = {"g2": (10, 60), "g1": (0, 999), "u": (7, 7)}

        def changed(row):
            kind, name, _ = row.split(" ")
            low, high = rows.get(name, (0, 999))
            wrong = [(low - 1, high), (low, high + 1), (low - 1, high + 1), (high + 1, high + 1), (low - 1, low - 1)]
            return [f"{kind} {name} {least}..{most}" for least, most in wrong]
        self.assert_bad_at_each_place(changed)

    def test_loads_may_have_any_range(self):
        text = "\n".join(["load l3 0..999", "load l1 0..0", "load m 61..998"] + ROWS[3:]) + "\n"
        self.assertEqual(read_box(some_grid(), text), Box([(0, 999), (0, 0), (61, 998)], OUTS))

    def test_lines_left_out(self):
        for k in range(len(ROWS)):
            self.assert_bad(k + 1, "\n".join(ROWS[:k] + ROWS[k + 1:]) + "\n")
            self.assert_bad(k + 1, "".join(row + "\n" for row in ROWS[:k]))

    def test_lines_doubled_or_moved(self):
        for k, row in enumerate(ROWS):
            self.assert_bad(k + 2, "\n".join(ROWS[:k] + [row, row] + ROWS[k + 1:]) + "\n")
            for at in range(len(ROWS)):
                if at != k:
                    rows = ROWS[:k] + ROWS[k + 1:]
                    rows.insert(at, row)
                    self.assert_bad(min(at, k) + 1, "\n".join(rows) + "\n")

    def test_empty_lines(self):
        for k in range(len(ROWS) + 1):
            for blank in ("", " "):
                self.assert_bad(k + 1, "\n".join(ROWS[:k] + [blank] + ROWS[k:]) + "\n")

    def test_too_many_lines(self):
        text = "\n".join(ROWS) + "\n"
        for more in ("\n", " ", " \n", ROWS[-1], ROWS[-1] + "\n", "unit g3 0..9\n", "load l9 0..9\n", "x", "\n\n\n"):
            self.assert_bad(len(ROWS) + 1, text + more)

    def test_without_the_last_newline(self):
        for k in range(1, len(ROWS) + 1):
            text = "\n".join(ROWS[:k])
            self.assert_bad(k, text)
        whole = "\n".join(ROWS) + "\n"
        for many in range(len(whole)):
            self.assert_bad(whole[:many].count("\n") + 1, whole[:many])

    def test_the_empty_text(self):
        self.assert_bad(1, "")
        self.assert_bad(1, "\n")
        empty = Grid(1, [], [], [])
        for text in ("\n", " ", "load d 0..1\n", "unit u 0..1\n", "x", "\n\n"):
            self.assert_bad(1, text, empty)

    def test_the_first_of_several(self):
        for k in range(len(ROWS)):
            for other in range(k, len(ROWS)):
                rows = list(ROWS)
                rows[k] = rows[other] = "bad"
                self.assert_bad(k + 1, "\n".join(rows) + "\n")
                self.assert_bad(k + 1, "\n".join(rows))
                self.assert_bad(k + 1, "\n".join(rows[:other + 1]) + "\n")
                self.assert_bad(k + 1, "\n".join(rows) + "\n\n\n")

    def test_an_empty_range_comes_before_a_missing_line(self):
        grid = Grid(1, [], [Unit("u", 0, 5, 9, 1)], [Load("d", 0)])
        self.assert_bad(1, "load d 2..1\n", grid)
        self.assert_bad(2, "load d 1..2\n", grid)
        self.assert_bad(2, "load d 1..2\nunit u 4..9\n", grid)
        self.assert_bad(3, "load d 1..2\nunit u 5..9\nunit u 5..9\n", grid)

    def test_each_sign(self):
        """A text with one sign replaced, left out or put in is read only if it is one that is written."""
        grid = Grid(1, [], [Unit("u", 0, 1, 30, 1)], [Load("d", 0)])
        written = {}
        for low in range(0, 100):
            for high in range(low, 1000):
                written[f"load d {low}..{high}\n"] = (low, high)
        outs = {f"unit u {low}..{high}\n": (low, high) for low in range(1, 31) for high in range(low, 31)}
        first, second = "load d 4..20\n", "unit u 2..13\n"
        for k in range(len(first) + 1):
            for sign in SIGNS + [""]:
                for text in (first[:k] + sign + first[k + 1:], first[:k] + sign + first[k:]):
                    if text in written:
                        self.assertEqual(read_box(grid, text + second), Box([written[text]], [(2, 13)]))
                    elif not text.startswith(first):
                        self.assert_bad(1, text + second, grid)
        for k in range(len(second) + 1):
            for sign in SIGNS + [""]:
                for text in (second[:k] + sign + second[k + 1:], second[:k] + sign + second[k:]):
                    if text in outs:
                        self.assertEqual(read_box(grid, first + text), Box([(4, 20)], [outs[text]]))
                    elif not text.startswith(second):
                        self.assert_bad(2, first + text, grid)

    def test_long_texts(self):
        text = "\n".join(ROWS) + "\n"
        self.assert_bad(7, text * 1000)
        self.assert_bad(1, "9" * 150000)
        self.assert_bad(1, "load l3 0.." + "9" * 150000 + "\n")
        self.assert_bad(1, "\n" * 150000)
