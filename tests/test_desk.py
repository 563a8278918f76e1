import random
import unittest

from lampward.box.boxes import Box
from lampward.desk.desk import Desk
from lampward.desk.rebuilding import rebuild
from lampward.errors import EmptyBox, Misfit, NoPoint, NoSuch, NothingToUndo, Uneven
from lampward.grant.granting import Refusal, grant
from lampward.loss.harms import harms
from lampward.net.cases import cases
from lampward.net.grid import Grid, Line, Load, Unit
from tests.helpers import (
    even_numbers, first_uneven, island_lists, made_grids, misfits, point_within, ranges_around, ranges_of, spoil,
    sturdy_grid, view, wrong_numbers,
)


def part_names(grid):
    return [part.name for part in grid.lines + grid.units]


def without(grid, lost):
    lines = [line for line in grid.lines if line.name not in lost]
    units = [unit for unit in grid.units if unit.name not in lost]
    return Grid(grid.buses, lines, units, grid.loads)


def see_line(sizes, outs):
    return " ".join(["see"] + [str(n) for n in sizes] + [":"] + [str(n) for n in outs])


def ask_line(sizes, outs):
    rows = [f"{low}..{high}" for low, high in sizes], [f"{low}..{high}" for low, high in outs]
    return " ".join(["ask"] + rows[0] + [":"] + rows[1])


class Record:
    """A plain record of a desk: what is lost, the point and the box, after each deed that stands."""

    def __init__(self, grid):
        self.grid = grid
        self.states = [([], None, None)]
        self.lines = []

    def add(self, line, lost, point, box):
        self.lines.append(line)
        self.states.append((lost, point, box))

    def undo(self):
        self.states.pop()
        return self.lines.pop()

    def state(self):
        return self.states[-1]

    def now(self):
        return without(self.grid, self.state()[0])

    def journal(self):
        return "".join(line + "\n" for line in self.lines)

    def is_sure(self):
        _, point, box = self.state()
        if point is None or box is None:
            return False
        return all(low <= n <= high for n, (low, high) in zip(point[0] + point[1], box[0] + box[1]))


def refusal_fields(refusal):
    return {name: getattr(refusal, name) for name in ("case", "kind", "place", "most", "value", "sizes", "outs")}


class DeskTest(unittest.TestCase):
    def assert_as(self, record, desk):
        lost, point, box = record.state()
        self.assertEqual(desk.lost(), [name for name in part_names(record.grid) if name in lost])
        self.assertEqual(desk.point(), point)
        found = desk.box()
        self.assertEqual(None if found is None else (found.sizes, found.outs), box)
        self.assertIs(desk.sure(), record.is_sure())
        self.assertEqual(desk.journal(), record.journal())
        self.assertEqual(view(desk.now()), view(record.now()))
        self.assert_alarms(record, desk)

    def assert_alarms(self, record, desk):
        point = record.state()[1]
        if point is None:
            with self.assertRaises(NoPoint):
                desk.alarms()
            return
        grid = record.now()
        told = [(case, harms(grid, case, *point)) for case in cases(grid)]
        self.assertEqual(desk.alarms(), [row for row in told if row[1]])
        if record.is_sure():
            self.assertEqual(desk.alarms(), [])

    def see(self, record, desk, sizes, outs):
        grid, given = record.now(), (list(sizes), list(outs))
        wrong = len(sizes) != len(grid.loads) or len(outs) != len(grid.units)
        if wrong:
            with self.assertRaises(Misfit):
                desk.see(sizes, outs)
        elif first_uneven(grid, sizes, outs) is not None:
            with self.assertRaises(Uneven) as caught:
                desk.see(sizes, outs)
            self.assertEqual(caught.exception.bus, first_uneven(grid, sizes, outs))
        else:
            self.assertIsNone(desk.see(sizes, outs))
            lost, _, box = record.state()
            record.add(see_line(*given), lost, given, box)
        self.assertEqual((sizes, outs), given)
        sizes.append("X")
        outs.reverse()

    def ask(self, record, desk, box):
        grid, ranges = record.now(), (list(box.sizes), list(box.outs))
        try:
            expected = grant(grid, box)
        except (Misfit, EmptyBox) as error:
            with self.assertRaises(type(error)):
                desk.ask(box)
        else:
            found = desk.ask(box)
            if expected is None:
                self.assertIsNone(found)
                lost, point, _ = record.state()
                record.add(ask_line(*ranges), lost, point, ranges)
            else:
                self.assertIsInstance(found, Refusal)
                self.assertEqual(refusal_fields(found), refusal_fields(expected))
                found.sizes.append("X")
                found.outs.reverse()
        self.assertEqual((box.sizes, box.outs), ranges)
        box.sizes.append("X")
        box.outs.reverse()

    def lose(self, record, desk, name):
        grid = record.now()
        lost, point, _ = record.state()
        if name not in part_names(grid):
            with self.assertRaises(NoSuch) as caught:
                desk.lose(name)
            self.assertEqual(caught.exception.name, name)
        elif point is None:
            with self.assertRaises(NoPoint):
                desk.lose(name)
        else:
            was_sure = record.is_sure()
            found = desk.lose(name)
            self.assertEqual(found, harms(grid, name, *point))
            if was_sure:
                self.assertEqual(found, [])
            found.append("X")
            record.add(f"lose {name}", lost + [name], None, None)

    def mend(self, record, desk, name):
        lost = record.state()[0]
        if name not in lost:
            with self.assertRaises(NoSuch) as caught:
                desk.mend(name)
            self.assertEqual(caught.exception.name, name)
        else:
            self.assertIsNone(desk.mend(name))
            record.add(f"mend {name}", [other for other in lost if other != name], None, None)

    def undo(self, record, desk):
        if not record.lines:
            with self.assertRaises(NothingToUndo):
                desk.undo()
        else:
            self.assertEqual(desk.undo(), record.undo())


class Days(DeskTest):
    def drawn_deed(self, chance, record, desk):
        grid = record.now()
        kind = chance.choice(["see", "see", "ask", "ask", "ask", "lose", "lose", "mend", "undo"])
        sizes, outs = point_within(chance, grid, 1, chance.choice([3, 9]))
        if kind == "see":
            if chance.random() < 0.2:
                sizes, outs = even_numbers(chance, grid)
            if chance.random() < 0.15:
                sizes, outs = chance.choice(wrong_numbers(sizes, outs, 1) + [(outs, sizes)])
            self.see(record, desk, list(sizes), list(outs))
        elif kind == "ask":
            point = record.state()[1]
            if point is not None and chance.random() < 0.6 and min(point[0] + point[1], default=0) >= 0:
                if all(unit.low <= n <= unit.high for unit, n in zip(grid.units, point[1])):
                    sizes, outs = point
            ranges = ranges_around(chance, grid, sizes, outs, chance.choice([0, 1, 4]))
            if chance.random() < 0.1:
                ranges = chance.choice(misfits(grid))
            elif chance.random() < 0.1:
                ranges = [(n + 7, n + 9) for n in sizes], ranges[1]
            self.ask(record, desk, Box(*ranges))
        elif kind == "undo":
            self.undo(record, desk)
        else:
            names = part_names(record.grid) + ["-", "zz", "", record.grid.loads[0].name]
            if kind == "mend" and record.state()[0] and chance.random() < 0.7:
                names = record.state()[0]
            getattr(self, kind)(record, desk, chance.choice(names))

    def test_drawn_days(self):
        chance = random.Random(261)
        sure, lost, refused = 0, 0, 0
        for _ in range(80):
            grid = sturdy_grid(chance, 30, (9, 20, 40, 99))
            given = Grid(grid.buses, grid.lines, grid.units, grid.loads)
            record, desk = Record(grid), Desk(given)
            spoil(given.lines, given.units, given.loads)
            for _ in range(30):
                self.drawn_deed(chance, record, desk)
                self.assert_as(record, desk)
                sure += record.is_sure()
                lost += len(record.state()[0]) > 1
            again = rebuild(grid, desk.journal())
            self.assert_as(record, again)
            while record.lines:
                expected = record.undo()
                for one in (desk, again):
                    self.assertEqual(one.undo(), expected)
                    self.assert_as(record, one)
            for one in (desk, again):
                self.undo(record, one)
        self.assertGreater(min(sure, lost), 40)

    def test_great_grids(self):
        """Desks over grids of all sizes, on which all parts are lost one after the other and come back."""
        chance = random.Random(262)
        for grid in made_grids(262, 27):
            record, desk = Record(grid), Desk(grid)
            names = part_names(grid)
            chance.shuffle(names)
            for name in names:
                sizes, outs = even_numbers(chance, record.now())
                self.see(record, desk, sizes, outs)
                self.lose(record, desk, name)
            self.assert_as(record, desk)
            self.assertEqual(desk.lost(), part_names(grid))
            chance.shuffle(names)
            for name in names[:4]:
                self.lose(record, desk, name)
                self.mend(record, desk, name)
                self.mend(record, desk, name)
            self.assert_as(record, desk)
            self.assert_as(record, rebuild(grid, desk.journal()))


class Known(DeskTest):
    def grid(self):
        lines = [Line("ab", 0, 1, 1, 12), Line("ba", 1, 0, 1, 12)]
        units = [Unit("u", 0, 0, 12, 1), Unit("v", 0, 0, 12, 1)]
        return Grid(2, lines, units, [Load("d", 1)])

    def box(self):
        return Box([(0, 12)], [(0, 6), (0, 6)])

    def test_without_deeds(self):
        for grid in made_grids(263, 18) + [Grid(1, [], [], [])]:
            record, desk = Record(grid), Desk(grid)
            self.assert_as(record, desk)
            self.assertEqual((desk.lost(), desk.journal(), desk.sure()), ([], "", False))
            self.undo(record, desk)
            for name in part_names(grid) + ["-", "", "zz"] + [load.name for load in grid.loads]:
                self.mend(record, desk, name)
                self.lose(record, desk, name)
            self.assert_as(record, desk)

    def test_journal(self):
        desk = Desk(self.grid())
        desk.see([12], [6, 6])
        desk.see([-3], [1, -4])
        desk.ask(self.box())
        desk.lose("v")
        desk.mend("v")
        self.assertEqual(desk.journal(), "see 12 : 6 6\nsee -3 : 1 -4\nask 0..12 : 0..6 0..6\nlose v\nmend v\n")
        for grid, sizes, outs, expected in (
            (Grid(1, [], [], []), [], [], "see :\nask :\n"),
            (Grid(1, [], [], [Load("d", 0), Load("e", 0)]), [0, 0], [], "see 0 0 :\nask 0..0 0..0 :\n"),
            (Grid(1, [], [Unit("u", 0, 0, 9, 1)], []), [], [0], "see : 0\nask : 0..0\n"),
        ):
            desk = Desk(grid)
            desk.see(sizes, outs)
            self.assertIsNone(desk.ask(Box([(n, n) for n in sizes], [(n, n) for n in outs])))
            self.assertEqual(desk.journal(), expected)

    def test_sure(self):
        desk = Desk(self.grid())
        self.assertIs(desk.sure(), False)
        desk.see([12], [6, 6])
        self.assertIs(desk.sure(), False)
        self.assertIsNone(desk.ask(self.box()))
        self.assertIs(desk.sure(), True)
        self.assertEqual(desk.alarms(), [])
        desk.see([12], [7, 5])
        self.assertIs(desk.sure(), False)
        desk.see([0], [0, 0])
        self.assertIs(desk.sure(), True)
        refusal = desk.ask(Box([(0, 13)], [(0, 7), (0, 6)]))
        self.assertEqual((refusal.case, refusal.kind, refusal.value), ("ab", "back", (13, 1)))
        self.assertIs(desk.sure(), True)
        self.assertEqual(desk.lose("ab"), [])
        self.assertIs(desk.sure(), False)
        self.assertEqual((desk.point(), desk.box()), (None, None))
        self.assertEqual(desk.undo(), "lose ab")
        self.assertIs(desk.sure(), True)

    def test_alarms(self):
        desk = Desk(self.grid())
        desk.see([14], [12, 2])
        self.assertEqual(desk.alarms(), [
            ("ab", [("over", "ba", (-14, 1))]), ("ba", [("over", "ab", (14, 1))]),
            ("u", [("range", "v", (14, 1))]), ("v", [("range", "u", (14, 1))]),
        ])
        first = desk.alarms()
        first[0][1].append("X")
        first.append("X")
        self.assertEqual(len(desk.alarms()), 4)
        self.assertEqual(len(desk.alarms()[0][1]), 1)
        self.assertEqual(desk.lose("u"), [("range", "v", (14, 1))])
        with self.assertRaises(NoPoint):
            desk.alarms()
        desk.see([2], [2])
        self.assertEqual(desk.alarms(), [("v", [("left", 0, 2)])])

    def test_negative_points(self):
        desk = Desk(self.grid())
        desk.see([-5], [-9, 4])
        self.assertEqual(desk.alarms()[0], ("-", [("range", "u", (-9, 1))]))
        self.assertIsNone(desk.ask(self.box()))
        self.assertIs(desk.sure(), False)
        great = 10 ** 59
        desk.see([-great], [great, -2 * great])
        self.assertEqual(rebuild(self.grid(), desk.journal()).point(), ([-great], [great, -2 * great]))

    def test_boxes_of_one_point(self):
        desk = Desk(self.grid())
        desk.see([12], [6, 6])
        self.assertIsNone(desk.ask(Box([(12, 12)], [(6, 6), (6, 6)])))
        self.assertIs(desk.sure(), True)
        refusal = desk.ask(Box([(13, 13)], [(7, 7), (6, 6)]))
        self.assertEqual((refusal.sizes, refusal.outs), ([13], [7, 6]))
        self.assertEqual(desk.box(), Box([(12, 12)], [(6, 6), (6, 6)]))

    def test_order_of_errors(self):
        desk = Desk(self.grid())
        for name in ("zz", "-", "", "d", "ab "):
            with self.assertRaises(NoSuch):
                desk.lose(name)
            with self.assertRaises(NoSuch):
                desk.mend(name)
        for name in ("ab", "u"):
            with self.assertRaises(NoPoint):
                desk.lose(name)
            with self.assertRaises(NoSuch):
                desk.mend(name)
        desk.see([0], [0, 0])
        desk.lose("ab")
        with self.assertRaises(NoSuch):
            desk.lose("ab")
        with self.assertRaises(Misfit):
            desk.ask(Box([(20, 20)], [(0, 12)]))
        with self.assertRaises(Misfit):
            desk.ask(Box([(30, 30)], [(0, 12), (0, 13)]))
        with self.assertRaises(EmptyBox):
            desk.ask(Box([(30, 30)], [(0, 12), (0, 12)]))
        with self.assertRaises(Misfit):
            desk.see([1], [5])
        with self.assertRaises(Uneven) as caught:
            desk.see([1], [5, 5])
        self.assertEqual(caught.exception.bus, 0)
        self.assertEqual(desk.journal(), "see 0 : 0 0\nlose ab\n")

    def test_uneven_in_the_grid_now(self):
        lines = [Line("a", 0, 1, 1, 99), Line("b", 1, 2, 1, 99)]
        units = [Unit("u", 0, 0, 9, 1), Unit("v", 2, 0, 9, 1)]
        desk = Desk(Grid(3, lines, units, [Load("d", 0), Load("e", 2)]))
        desk.see([3, 4], [5, 2])
        desk.lose("b")
        with self.assertRaises(Uneven) as caught:
            desk.see([3, 4], [5, 2])
        self.assertEqual(caught.exception.bus, 0)
        with self.assertRaises(Uneven) as caught:
            desk.see([3, 4], [3, 2])
        self.assertEqual(caught.exception.bus, 2)
        self.assertIsNone(desk.see([3, 4], [3, 4]))
        desk.lose("u")
        self.assertEqual(island_lists(desk.now()), [[0, 1], [2]])
        with self.assertRaises(Misfit):
            desk.see([3, 4], [3, 4])

    def test_what_is_returned_is_new(self):
        desk = Desk(self.grid())
        desk.see([12], [6, 6])
        desk.ask(self.box())
        grid, point, box, lost = desk.now(), desk.point(), desk.box(), desk.lost()
        spoil(grid.lines, grid.units, grid.loads)
        for numbers in (point[0], point[1], box.sizes, box.outs, lost):
            numbers.append("X")
            numbers.reverse()
        self.assertEqual(view(desk.now()), view(self.grid()))
        self.assertEqual((desk.point(), desk.box(), desk.lost()), (([12], [6, 6]), self.box(), []))
        self.assertEqual(ranges_of(desk.box()), (((0, 12),), ((0, 6), (0, 6))))
        self.assertIs(desk.sure(), True)
        desk.undo()
        desk.undo()
        self.assertEqual((desk.point(), desk.box(), desk.journal()), (None, None, ""))
