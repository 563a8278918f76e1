import random
import unittest

from lampward.box.boxes import Box
from lampward.desk.desk import Desk
from lampward.desk.rebuilding import rebuild
from lampward.errors import BadText, LampwardError
from lampward.net.grid import Grid, Line, Load, Unit
from tests.helpers import made_grids, spoil, view

SIGNS = [chr(code) for code in range(32, 127) if chr(code) != "%"] + ["\n"]
ROWS = [
    "see 12 0 : 6 6", "ask 0..12 0..0 : 0..6 0..6", "see -3 2 : 1 -2", "see 2 1 : 3 0", "lose ab", "see 0 0 : 0 0",
    "lose u", "mend ab", "see 5 5 : 10", "ask 5..5 0..1 : 0..6",
]
BAD_NUMBERS = ["", "x", "01", "-0", "+1", "--1", "1.0", "1_0", "0x1", "1" * 61, "-" + "1" * 61, "1" * 5000, "1,", "-"]
BAD_RANGES = [
    "", "5", "..", "5..", "..5", "5...6", "5..6..7", "05..6", "5..06", "+5..6", "6..5", "-1..6", "-0..6", "0..1000",
    "5.6", "5..x", "0.." + "9" * 61, "0.." + "9" * 5000, "0..6,", "0..-6", "0-6",
]


def some_grid():
    """It bears up to 12 at bus 1, as long as no line is lost."""
    lines = [Line("ab", 0, 1, 1, 12), Line("ba", 1, 0, 1, 12)]
    units = [Unit("u", 0, 0, 12, 1), Unit("v", 0, 0, 12, 1)]
    return Grid(2, lines, units, [Load("d", 1), Load("e", 1)])


def last_rows():
    """The rows with the last one left out, which is refused: with one unit, its loss leaves what is needed."""
    return ROWS[:9]


def joined(rows):
    return "".join(row + "\n" for row in rows)


class RebuildTest(unittest.TestCase):
    def assert_bad(self, line, text, grid=None):
        grid = grid or some_grid()
        before = view(grid)
        with self.assertRaises(BadText) as caught:
            rebuild(grid, text)
        self.assertEqual(caught.exception.line, line, text[:300])
        self.assertEqual(view(grid), before)

    def assert_rebuilt(self, text, grid=None):
        desk = rebuild(grid or some_grid(), text)
        self.assertIsInstance(desk, Desk)
        self.assertEqual(desk.journal(), text)
        return desk


class Right(RebuildTest):
    def test_no_deeds(self):
        for grid in made_grids(271, 9):
            desk = self.assert_rebuilt("", grid)
            self.assertEqual((desk.lost(), desk.point(), desk.box()), ([], None, None))
            self.assertEqual(view(desk.now()), view(grid))

    def test_state_and_undoing(self):
        rows = last_rows()
        desk = self.assert_rebuilt(joined(rows))
        self.assertEqual((desk.lost(), desk.point(), desk.box()), (["u"], ([5, 5], [10]), None))
        for k in reversed(range(len(rows))):
            self.assertEqual(desk.undo(), rows[k])
            again = self.assert_rebuilt(joined(rows[:k]))
            self.assertEqual(desk.journal(), again.journal())
            for told in ("lost", "point", "box", "sure"):
                self.assertEqual(getattr(desk, told)(), getattr(again, told)())

    def test_deeds_behind(self):
        """A desk that is rebuilt goes on like the first one."""
        desk = self.assert_rebuilt(joined(ROWS[:2]))
        self.assertIs(desk.sure(), True)
        desk.see([0, 0], [0, 0])
        self.assertEqual(desk.lose("u"), [])
        self.assertEqual(desk.journal(), joined(ROWS[:2] + ["see 0 0 : 0 0", "lose u"]))

    def test_the_grid_is_copied(self):
        grid = some_grid()
        desk = rebuild(grid, joined(ROWS[:2]))
        spoil(grid.lines, grid.units, grid.loads)
        self.assertEqual(view(desk.now()), view(some_grid()))
        self.assertEqual(desk.alarms(), [])

    def test_without_loads_or_units(self):
        for grid, text in (
            (Grid(1, [], [], []), "see :\nask :\nsee :\n"),
            (Grid(1, [], [], [Load("d", 0)]), "see 0 :\nask 0..9 :\n"),
            (Grid(1, [], [Unit("u", 0, 0, 9, 1)], []), "see : 0\nask : 0..9\nlose u\nsee :\n"),
        ):
            self.assert_rebuilt(text, grid)

    def test_names_that_are_words_of_the_text(self):
        lines = [Line("see", 0, 1, 1, 9), Line("lose", 0, 1, 1, 9)]
        grid = Grid(2, lines, [Unit("mend", 0, 0, 9, 1)], [])
        self.assert_rebuilt("see : 0\nlose see\nsee : 0\nlose mend\nmend see\nmend mend\n", grid)

    def test_many_deeds(self):
        text = joined(["see 1 1 : 1 1", "ask 0..12 0..0 : 0..6 0..6", "lose ab", "mend ab"] * 125)
        desk = self.assert_rebuilt(text)
        for _ in range(499):
            desk.undo()
        self.assertEqual(desk.journal(), "see 1 1 : 1 1\n")


    def test_many_deeds_on_a_full_grid(self):
        lines = [Line("l" + str(k), k % 9, (k + 1 + k // 9) % 9, 1 + k % 9, 9999) for k in range(12)]
        units = [Unit("u" + str(k), k, 0, 999, 1 + k) for k in range(6)]
        grid = Grid(9, lines, units, [Load("d" + str(k), 8 - k) for k in range(6)])
        many = " ".join(["10..20"] * 6)
        one = " ".join(["10"] * 6)
        deeds = [f"see {one} : {one}", f"ask {many} : {many}", f"ask {many} : {many}", "lose l0", "mend l0"]
        desk = self.assert_rebuilt(joined(deeds * 20 + [deeds[1]] * 100 + [deeds[0]]), grid)
        self.assertIs(desk.sure(), True)
        self.assertEqual(desk.alarms(), [])


class Wrong(RebuildTest):
    def assert_bad_in_place(self, k, wrong):
        rows = last_rows()
        for changed in (rows[:k] + [wrong] + rows[k + 1:], rows[:k] + [wrong], rows[:k] + [wrong, "nonsense"]):
            self.assert_bad(k + 1, joined(changed))
            if changed[-1] != "":
                self.assert_bad(k + 1, joined(changed)[:-1])

    def test_words_left_out_doubled_moved_replaced_or_empty(self):
        for k, row in enumerate(last_rows()):
            words = row.split(" ")
            for at, word in enumerate(words):
                for changed in (
                    words[:at] + words[at + 1:], words[:at] + [word] + words[at:], words[:at] + [""] + words[at + 1:],
                    words[:at] + [""] + words[at:], words[:at] + ["X"] + words[at + 1:], words[:at] + [":"] + words[at:],
                    words[:at] + [word + "x"] + words[at + 1:],
                ):
                    if changed != words:
                        self.assert_bad_in_place(k, " ".join(changed))
            for wrong in ("", " ", ":", row + " ", " " + row, row + " 0", row + " " + row, row.upper(), "#" + row):
                self.assert_bad_in_place(k, wrong)
            self.assert_bad_in_place(k, " ".join(reversed(words)))

    def test_numbers(self):
        for k in (0, 2, 8):
            words = ROWS[k].split(" ")
            for at, word in enumerate(words):
                if word not in ("see", ":"):
                    for wrong in BAD_NUMBERS:
                        self.assert_bad_in_place(k, " ".join(words[:at] + [wrong] + words[at + 1:]))

    def test_ranges(self):
        words = ROWS[1].split(" ")
        for at in (1, 2, 4, 5):
            for wrong in BAD_RANGES:
                self.assert_bad_in_place(1, " ".join(words[:at] + [wrong] + words[at + 1:]))

    def test_deeds_that_raise_errors_or_are_refused(self):
        for k, wrong in (
            (0, "see 12 0 : 6 7"), (0, "see 12 : 6 6"), (0, "see 12 0 : 12"), (0, "see 12 : 12"), (0, "lose ab"),
            (0, "mend ab"), (0, "lose -"), (0, "mend -"), (1, "ask 0..13 0..0 : 0..7 0..6"),
            (1, "ask 0..12 0..0 : 0..13 0..6"), (1, "ask 30..30 0..0 : 0..6 0..6"), (1, "ask 0..12 : 0..6 0..6"),
            (1, "ask 0..12 0..0 : 0..6"), (1, "lose zz"), (1, "lose d"), (1, "lose -"), (1, "mend ab"),
            (4, "lose zz"), (4, "mend u"), (5, "lose u"), (6, "lose ab"), (6, "mend u"), (7, "mend zz"),
            (8, "see 5 5 : 10 0"), (8, "lose v"),
        ):
            self.assert_bad_in_place(k, wrong)
        self.assert_bad(10, joined(ROWS))

    def test_other_forms(self):
        for wrong in ("undo", "undo ab", "lose", "mend", "see", "ask", "lose ", "mend ", "lose  ab", "lose ab ba",
                      "lose AB", "look 12 0 : 6 6", "SEE 12 0 : 6 6", "see 12 0 :6 6", "see 12 0: 6 6", "see12 0 : 6 6",
                      "see 12 0 6 6", "see 12 0 : 6 : 6", "see 12 0 ; 6 6", "see 12, 0 : 6, 6", "ask 12 0 : 6 6",
                      "see 0..12 0..0 : 0..6 0..6", "sure", "alarms", "journal", ":"):
            self.assert_bad_in_place(3, wrong)

    def test_lines_left_out_doubled_and_moved(self):
        """Held against a desk that does the deeds one by one."""
        rows = last_rows()
        seen = {True: 0, False: 0}
        for k, row in enumerate(rows):
            changed = [rows[:k] + rows[k + 1:]]
            for at in range(len(rows)):
                rest = rows[:k] + rows[k + 1:]
                changed += [rows[:at] + [row] + rows[at:], rest[:at] + [row] + rest[at:]]
            for other in changed:
                bad = self.first_bad(other)
                seen[bad is None] += 1
                if bad is None:
                    self.assert_rebuilt(joined(other))
                else:
                    self.assert_bad(bad, joined(other))
        self.assertGreater(min(seen.values()), 30)

    def first_bad(self, rows):
        desk = Desk(some_grid())
        for number, row in enumerate(rows, start=1):
            kind, *words = row.split(" ")
            try:
                if kind in ("lose", "mend"):
                    getattr(desk, kind)(*words)
                    continue
                at = words.index(":")
                if kind == "see":
                    desk.see([int(word) for word in words[:at]], [int(word) for word in words[at + 1:]])
                else:
                    ranges = [tuple(int(n) for n in word.split("..")) for word in words if word != ":"]
                    if desk.ask(Box(ranges[:at], ranges[at:])) is not None:
                        return number
            except LampwardError:
                return number
        return None

    def test_empty_lines(self):
        rows = last_rows()
        for k in range(len(rows) + 1):
            for blank in ("", " "):
                self.assert_bad(k + 1, joined(rows[:k] + [blank] + rows[k:]))

    def test_the_end(self):
        whole = joined(last_rows())
        for many in range(len(whole)):
            text = whole[:many]
            if text == "" or text.endswith("\n"):
                self.assert_rebuilt(text)
            else:
                self.assert_bad(text.count("\n") + 1, text)
        for more in ("\n", " ", "x", "lose v", "see 0 0 : 0"):
            self.assert_bad(10, whole + more)

    def test_each_sign(self):
        """A text with one sign replaced, left out or put in is only rebuilt if its desk has it as its journal."""
        whole = "see 2 0 : 1 1\nask 0..2 0..0 : 0..6 0..6\nlose ab\n"
        self.assertTrue(self.is_rebuilt(whole))
        seen = {True: 0, False: 0}
        for k in range(len(whole) + 1):
            for sign in SIGNS + [""]:
                for text in (whole[:k] + sign + whole[k + 1:], whole[:k] + sign + whole[k:]):
                    seen[self.is_rebuilt(text)] += 1
        self.assertGreater(min(seen.values()), 30)

    def is_rebuilt(self, text):
        try:
            desk = rebuild(some_grid(), text)
        except BadText as error:
            self.assertTrue(1 <= error.line <= text.count("\n") + 1)
            return False
        self.assertEqual(desk.journal(), text)
        return True

    def test_long_texts(self):
        self.assert_bad(2, "see 0 0 : 0 0\n" + "9" * 150000 + "\n")
        self.assert_bad(1, "\n" * 150000)
        self.assert_bad(1, "see " + "0 " * 70000 + ": 0\n")
        self.assert_bad(1, "see 0 0 : 0 " + "9" * 150000 + "\n")
        self.assert_bad(1, "lose " + "a" * 150000 + "\n")


class Drawn(RebuildTest):
    def test_drawn_journals(self):
        """Journals of drawn deeds, in which a word is exchanged, are rebuilt only as what they are."""
        chance = random.Random(272)
        words = ["0", "1", "6", "12", "-1", ":", "ab", "u", "lose", "mend", "see", "0..6", "0..12", "2..1", ""]
        seen = {True: 0, False: 0}
        for _ in range(400):
            rows = chance.sample(ROWS, 4) if chance.random() < 0.3 else ROWS[:chance.randint(1, 9)]
            if chance.random() < 0.7:
                k = chance.randrange(len(rows))
                changed = rows[k].split(" ")
                changed[chance.randrange(len(changed))] = chance.choice(words)
                rows = rows[:k] + [" ".join(changed)] + rows[k + 1:]
            try:
                desk = rebuild(some_grid(), joined(rows))
            except BadText as error:
                seen[False] += 1
                self.assert_rebuilt(joined(rows[:error.line - 1]))
            else:
                seen[True] += 1
                self.assertEqual(desk.journal(), joined(rows))
        self.assertGreater(min(seen.values()), 50)
