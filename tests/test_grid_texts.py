import random
import unittest

from lampward.errors import BadText
from lampward.net.grid import Grid, Line, Load, Unit
from lampward.text.grids import read_grid, write_grid
from tests.helpers import NAMES, made_grids, spoil, view

SIGNS = [chr(code) for code in range(32, 127) if chr(code) != "%"] + ["\n"]
BAD_NUMBERS = [
    "", "x", "01", "00", "+1", "-1", "-0", "1.0", "1_0", "1/1", " 1", "1 ", "0x1", "10000", "99999", "1e1", "9" * 61,
    "9" * 5000, "0" * 9, "one",
]
BAD_NAMES = ["", "A", "1a", "a-b", "abcdefg", "a b", "a_b", "aB", "-", "a.b", "\u00e9"]
ROWS = [
    "buses 4", "line ab 0 1 ease 3 limit 40", "line ba 1 0 ease 9 limit 9999", "line c 3 2 ease 1 limit 0",
    "unit g1 0 from 0 to 90 share 2", "unit g2 3 from 999 to 999 share 0", "load l1 2", "load l2 2",
]


def text_of(grid):
    rows = [f"buses {grid.buses}"]
    rows += [f"line {part.name} {part.a} {part.b} ease {part.ease} limit {part.limit}" for part in grid.lines]
    rows += [f"unit {u.name} {u.bus} from {u.low} to {u.high} share {u.share}" for u in grid.units]
    rows += [f"load {part.name} {part.bus}" for part in grid.loads]
    return joined(rows)


def joined(rows):
    return "".join(row + "\n" for row in rows)


def full_rows():
    """The rows of a grid with as many parts as there may be."""
    names = list(NAMES)
    rows = ["buses 9"]
    rows += [f"line {names.pop()} {k % 9} {(k + 1) % 9} ease 1 limit 5" for k in range(12)]
    rows += [f"unit {names.pop()} {k} from 0 to 5 share 1" for k in range(6)]
    return rows + [f"load {names.pop()} {k}" for k in range(6)]


class Writing(unittest.TestCase):
    def assert_text(self, grid):
        before = view(grid)
        text = write_grid(grid)
        self.assertIs(type(text), str)
        self.assertEqual(text, text_of(grid))
        found = read_grid(text)
        self.assertIsInstance(found, Grid)
        self.assertEqual(view(found), before)
        again = read_grid(text)
        spoil(found.lines, found.units, found.loads)
        self.assertEqual(view(again), before)
        self.assertEqual(view(read_grid(text)), before)
        self.assertEqual(view(grid), before)

    def test_made_grids(self):
        for grid in made_grids(241, 300):
            self.assert_text(grid)

    def test_known_one(self):
        self.assertEqual(write_grid(read_grid(joined(ROWS))), joined(ROWS))
        lines = [Line("ab", 0, 1, 3, 40), Line("ba", 1, 0, 9, 9999), Line("c", 3, 2, 1, 0)]
        units = [Unit("g1", 0, 0, 90, 2), Unit("g2", 3, 999, 999, 0)]
        self.assertEqual(write_grid(Grid(4, lines, units, [Load("l1", 2), Load("l2", 2)])), joined(ROWS))

    def test_without_lines_units_or_loads(self):
        self.assertEqual(write_grid(Grid(1, [], [], [])), "buses 1\n")
        line, unit, load = Line("a", 0, 1, 1, 9), Unit("u", 1, 0, 9, 1), Load("d", 0)
        for lines in ([], [line]):
            for units in ([], [unit]):
                for loads in ([], [load]):
                    self.assert_text(Grid(2, lines, units, loads))

    def test_full_grid(self):
        self.assert_text(read_grid(joined(full_rows())))

    def test_names_that_are_words_of_the_text(self):
        lines = [Line("line", 0, 1, 1, 9), Line("ease", 0, 1, 1, 9), Line("buses", 1, 0, 1, 9)]
        units = [Unit("unit", 1, 0, 9, 1), Unit("from", 1, 0, 9, 1), Unit("to", 1, 0, 9, 1)]
        self.assert_text(Grid(2, lines, units, [Load("load", 0), Load("share", 0)]))


class Reading(unittest.TestCase):
    def assert_bad(self, line, text):
        with self.assertRaises(BadText) as caught:
            read_grid(text)
        self.assertEqual(caught.exception.line, line, text[:300])

    def assert_bad_in_place(self, k, wrong):
        """The row in the place of row k is bad, whatever stands behind it."""
        for rows in (ROWS[:k] + [wrong] + ROWS[k + 1:], ROWS[:k] + [wrong], ROWS[:k] + [wrong, "nonsense", ""]):
            self.assert_bad(k + 1, joined(rows))
            if rows[-1] != "":
                self.assert_bad(k + 1, joined(rows)[:-1])

    def test_numbers(self):
        for k, row in enumerate(ROWS):
            words = row.split(" ")
            for at in range(1, len(words)):
                if words[at].isdigit():
                    for wrong in BAD_NUMBERS:
                        self.assert_bad_in_place(k, " ".join(words[:at] + [wrong] + words[at + 1:]))

    def test_numbers_beyond_the_rules(self):
        for k, wrong in (
            (0, "buses 0"), (0, "buses 10"), (0, "buses 9999"),
            (1, "line ab 0 4 ease 3 limit 40"), (1, "line ab 4 0 ease 3 limit 40"), (1, "line ab 1 1 ease 3 limit 40"),
            (1, "line ab 0 1 ease 0 limit 40"), (1, "line ab 0 1 ease 10 limit 40"),
            (1, "line ab 0 1 ease 3 limit 10000"), (4, "unit g1 4 from 0 to 90 share 2"),
            (4, "unit g1 0 from 91 to 90 share 2"), (4, "unit g1 0 from 0 to 1000 share 2"),
            (4, "unit g1 0 from 0 to 90 share 10"), (6, "load l1 4"), (7, "load l2 9"),
        ):
            self.assert_bad_in_place(k, wrong)

    def test_names(self):
        for k, row in enumerate(ROWS[1:], start=1):
            kind, _, rest = row.split(" ", 2)
            for wrong in BAD_NAMES:
                self.assert_bad_in_place(k, f"{kind} {wrong} {rest}")

    def test_names_twice(self):
        names = [row.split(" ")[1] for row in ROWS]
        for k in range(2, len(ROWS)):
            kind, _, rest = ROWS[k].split(" ", 2)
            for name in names[1:k]:
                self.assert_bad_in_place(k, f"{kind} {name} {rest}")

    def test_words_left_out_doubled_moved_replaced_or_empty(self):
        for k, row in enumerate(ROWS):
            words = row.split(" ")
            for at, word in enumerate(words):
                changed = [words[:at] + words[at + 1:], words[:at] + [word] + words[at:], words[:at] + [""] + words[at:]]
                changed += [words[:at] + [other] + words[at + 1:] for other in ("", "X", word + "x", word + " ")]
                for other in range(len(words)):
                    moved = words[:at] + words[at + 1:]
                    moved.insert(other, word)
                    changed.append(moved)
                for found in changed:
                    if not self.may_stand(k, found, words):
                        self.assert_bad_in_place(k, " ".join(found))
            for wrong in ("", " ", row + " ", " " + row, row + ";", row + " 0", row + " " + row, row.upper(), "#" + row):
                self.assert_bad_in_place(k, wrong)

    def may_stand(self, k, found, words):
        """Whether a changed row still tells a part that keeps the rules."""
        return found == words or joined(ROWS[:k] + [" ".join(found)]) in self.allowed(k)

    def allowed(self, k):
        changed = {1: ["line ab 1 0 ease 3 limit 40", "line abx 0 1 ease 3 limit 40"],
                   2: ["line ba 0 1 ease 9 limit 9999", "line bax 1 0 ease 9 limit 9999"],
                   3: ["line c 2 3 ease 1 limit 0", "line cx 3 2 ease 1 limit 0"],
                   4: ["unit g1x 0 from 0 to 90 share 2"], 5: ["unit g2x 3 from 999 to 999 share 0"],
                   6: ["load l1x 2"], 7: ["load l2x 2"]}
        return [joined(ROWS[:k] + [row]) for row in changed.get(k, [])]

    def test_lines_left_out(self):
        for k in range(len(ROWS)):
            text = joined(ROWS[:k] + ROWS[k + 1:])
            if k == 0:
                self.assert_bad(1, text)
            else:
                self.assertEqual(write_grid(read_grid(text)), text)

    def test_lines_doubled(self):
        for k, row in enumerate(ROWS):
            for at in range(k + 1, len(ROWS) + 1):
                self.assert_bad(at + 1, joined(ROWS[:at] + [row] + ROWS[at:]))

    def kind(self, k):
        return ["buses", "line", "unit", "load"].index(ROWS[k].split(" ")[0])

    def test_lines_moved(self):
        """A line that comes too late is bad; one that comes too early makes the next one of an earlier kind bad."""
        for k in range(len(ROWS)):
            for at in range(len(ROWS)):
                order = list(range(len(ROWS)))
                order.remove(k)
                order.insert(at, k)
                text = joined([ROWS[place] for place in order])
                kinds = [self.kind(place) for place in order]
                bad = [n for n in range(len(kinds)) if (kinds[n] == 0) != (n == 0) or kinds[n] < max(kinds[:n + 1])]
                if bad:
                    self.assert_bad(bad[0] + 1, text)
                else:
                    self.assertEqual(write_grid(read_grid(text)), text)

    def test_a_second_number_of_buses(self):
        for at in range(1, len(ROWS) + 1):
            for row in ("buses 4", "buses 5"):
                self.assert_bad(at + 1, joined(ROWS[:at] + [row] + ROWS[at:]))

    def test_one_part_too_many(self):
        rows = full_rows()
        for at, row in ((13, "line zz 0 1 ease 1 limit 5"), (19, "unit zz 0 from 0 to 5 share 1"), (25, "load zz 0")):
            self.assert_bad(at + 1, joined(rows[:at] + [row] + rows[at:]))
            self.assert_bad(at + 1, joined(rows[:at] + [row, "nonsense"]))
            self.assert_bad(at + 1, joined(rows[:at] + [row]))

    def test_empty_lines(self):
        for k in range(len(ROWS) + 1):
            for blank in ("", " "):
                self.assert_bad(k + 1, joined(ROWS[:k] + [blank] + ROWS[k:]))

    def test_the_end(self):
        whole = joined(ROWS)
        for many in range(len(whole)):
            text = whole[:many]
            if text.endswith("\n"):
                self.assertEqual(write_grid(read_grid(text)), text)
            else:
                self.assert_bad(text.count("\n") + 1, text)
        for more in ("\n", " ", " \n", "x", "\n\n", "load l3"):
            self.assert_bad(len(ROWS) + 1, whole + more)
        for text in ("", "\n", " ", "buses", "buses\n", "buses 1", "line ab 0 1 ease 3 limit 40\n", "\nbuses 1\n"):
            self.assert_bad(1, text)

    def test_the_first_of_several(self):
        wrong = {1: "line ab 0 9 ease 3 limit 40", 4: "unit g1 0 from 9 to 8 share 2", 6: "load ab 2", 3: "bad"}
        for first in wrong:
            for second in wrong:
                rows = list(ROWS)
                rows[first], rows[second] = wrong[first], wrong[second]
                self.assert_bad(min(first, second) + 1, joined(rows))
        self.assert_bad(1, joined(["buses 0"] + ROWS[1:]))
        self.assert_bad(3, joined(["buses 1", "load l1 0", "load l2 1", "unit u 0 from 0 to 1 share 1"]))
        self.assert_bad(2, joined(["buses 1", "line a 0 1 ease 1 limit 1"])[:-1])

    def test_each_sign(self):
        """A text with one sign replaced, left out or put in is read only if it is one that is written."""
        first = joined(ROWS[:2])
        rest = "unit g1 0 from 0 to 9 share 2\nload l1 2\n"
        seen = {True: 0, False: 0}
        for text in (first, rest):
            for k in range(len(text) + 1):
                for sign in SIGNS + [""]:
                    for changed in (text[:k] + sign + text[k + 1:], text[:k] + sign + text[k:]):
                        whole = changed + rest if text == first else first + changed
                        seen[self.is_read(whole)] += 1
        self.assertGreater(min(seen.values()), 50)

    def is_read(self, text):
        """Whether the text is read; if so, it is the one that is written for the grid."""
        try:
            found = read_grid(text)
        except BadText as error:
            self.assertTrue(1 <= error.line <= text.count("\n") + 1)
            return False
        self.assertEqual(text_of(found), text)
        return True

    def test_drawn_changes(self):
        chance = random.Random(242)
        many = 0
        for grid in made_grids(242, 400):
            rows = text_of(grid).split("\n")[:-1]
            k = chance.randrange(len(rows))
            words = rows[k].split(" ")
            words[chance.randrange(len(words))] = chance.choice(["0", "1", "9", "10", "x", "line", "unit", "load", ""])
            changed = rows[:k] + [" ".join(words)] + rows[k + 1:]
            many += self.is_read(joined(changed))
        self.assertGreater(many, 20)

    def test_long_texts(self):
        self.assert_bad(9, joined(ROWS) * 900)
        self.assert_bad(1, "9" * 150000)
        self.assert_bad(1, "\n" * 150000)
        self.assert_bad(14, "buses 9\n" + joined(f"line a{k} 0 1 ease 1 limit 5" for k in range(6000)))
        self.assert_bad(2, "buses 9\nline ab 0 1 ease 1 limit " + "9" * 150000 + "\n")
