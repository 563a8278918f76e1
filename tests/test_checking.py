import random
import unittest
from fractions import Fraction

from lampward.grant.watches import watches
from lampward.net.grid import Grid, Line, Load, Unit
from lampward.plan.checking import check_plan
from lampward.plan.planning import plan
from tests.helpers import island_lists, pair, value, view
from tests.plan_helpers import all_outs, cost_of, drawn_plans, is_safe, least_cost, slow_check_plan


def copied(proof):
    return [row[:-1] + (list(row[-1]),) if row[0] in ("harm", "cost") else row for row in proof]


def some_grid():
    """Two units of different cost at one bus, the cheap one with a watch over its share."""
    units = [Unit("u", 0, 0, 9, 1), Unit("v", 0, 2, 9, 1)]
    return Grid(1, [], units, [Load("d", 0)])


class CheckTest(unittest.TestCase):
    def checked(self, grid, sizes, costs, claim, proof):
        """What check_plan returns, which is what point [69] tells, with nothing changed by it."""
        given, before = copied(proof), view(grid)
        outs = None if claim[1] is None else list(claim[1])
        found = check_plan(grid, sizes, costs, claim, proof)
        self.assertEqual(found, slow_check_plan(grid, sizes, costs, claim, proof))
        self.assertEqual((copied(proof), claim[1], view(grid)), (given, outs, before))
        return found


class Claims(CheckTest):
    def test_claims_that_are_wrong_by_themselves(self):
        grid, sizes, costs = some_grid(), [9], [1, 3]
        cost, outs, proof = plan(grid, sizes, costs)
        self.assertEqual((cost, outs), (13, [7, 2]))
        self.assertIsNone(self.checked(grid, sizes, costs, (cost, outs), proof))
        for claim in (
            (None, [7, 2]), (13, None), (13, []), (13, [7]), (13, [7, 2, 0]), (12, [7, 2]), (14, [7, 2]),
            (13, [10, 1]), (9, [9, 0]), (11, [8, 1]), (12, [6, 2]), (16, [7, 3]), (-13, [-7, -2]), (0, [0, 0]),
        ):
            for rows in (proof, [], [("empty",)], proof + [("empty",)]):
                self.assertEqual(self.checked(grid, sizes, costs, claim, rows), -1)

    def test_outputs_that_are_not_safe(self):
        chance = random.Random(291)
        seen = {True: 0, False: 0}
        for grid, sizes, costs in drawn_plans(291, 120):
            every = all_outs(grid)
            for outs in chance.sample(every, min(3, len(every))):
                safe = is_safe(grid, sizes, outs)
                seen[safe] += 1
                found = self.checked(grid, sizes, costs, (cost_of(costs, outs), outs), [])
                self.assertEqual(found, 0 if safe else -1)
                if safe:
                    self.assertEqual(self.checked(grid, sizes, costs, (cost_of(costs, outs) + 1, outs), []), -1)
        self.assertGreater(min(seen.values()), 10)

    def test_safe_outputs_that_are_too_dear(self):
        """No proof of the least cost, and no proof that there are none, goes for them."""
        many = 0
        for grid, sizes, costs in drawn_plans(292, 120):
            cost, _, proof = plan(grid, sizes, costs)
            for outs in all_outs(grid):
                if cost is not None and cost_of(costs, outs) > cost and is_safe(grid, sizes, outs):
                    many += 1
                    claim = (cost_of(costs, outs), outs)
                    found = self.checked(grid, sizes, costs, claim, proof)
                    self.assertIsNotNone(found)
                    self.assertEqual(proof[found][0], "cost")
                    break
        self.assertGreater(many, 10)

    def test_no_plan_though_there_is_one(self):
        many = 0
        for grid, sizes, costs in drawn_plans(293, 80):
            cost, _, proof = plan(grid, sizes, costs)
            if cost is not None:
                many += 1
                found = self.checked(grid, sizes, costs, (None, None), proof)
                self.assertEqual(proof[found][0], "cost")
        self.assertGreater(many, 20)


class Rows(CheckTest):
    def test_each_form(self):
        grid, sizes, costs = some_grid(), [9], [1, 3]
        at = [(watch.case, watch.kind, watch.place) for watch in watches(grid)].index(("v", "high", "u"))
        claim = (13, [7, 2])
        good = ("cost", [(1, 1)])
        for proof, found in (
            ([], 0),
            ([good], None),
            ([("cost", [(2, 1)])], 0),
            ([("cost", [(3, 1)])], 0),
            ([("cost", [(999, 1000)])], 0),
            ([("cost", [(1001, 1000)])], 0),
            ([("cost", [(0, 1)])], 0),
            ([("cost", [(-1, 1)])], 0),
            ([("cost", [])], 0),
            ([("cost", [(1, 1), (1, 1)])], 0),
            ([("empty",)], 0),
            ([("harm", at, [(0, 1)])], 0),
            ([good, good], 1),
            ([good, ("empty",)], 1),
            ([good, ("split", 0, 5)], 1),
            ([good, ("harm", 99, [])], 1),
            ([("split", 0, 5)], 1),
            ([("split", 0, 5), good], 2),
            ([("split", 0, 5), good, good], None),
            ([("split", 0, 7), good, ("empty",)], None),
            ([("split", 0, 6), good, ("empty",)], 2),
            ([("split", 0, 7), ("empty",), ("empty",)], 1),
            ([("split", 1, 8), good, good], None),
            ([("split", 0, 0), good, good], None),
            ([("split", 0, 8), good, ("empty",)], None),
            ([("split", 0, 7), ("split", 1, 3), good, good, ("empty",)], None),
            ([("split", 0, 7), ("split", 1, 3), good, good], 4),
            ([("split", 0, 7), good, ("split", 1, 3), ("empty",), ("empty",)], None),
            ([("split", 0, 7), ("split", 1, 3), good, good, ("empty",), ()], 5),
        ):
            self.assertEqual(check_plan(grid, sizes, costs, claim, proof), found, proof)
            if () not in proof:
                self.assertEqual(self.checked(grid, sizes, costs, claim, proof), found, proof)

    def test_splits(self):
        grid, sizes, costs = some_grid(), [9], [1, 3]
        done = [("cost", [(1, 1)])] * 2
        for unit, at, found in (
            (0, -1, 0), (0, 0, None), (0, 8, None), (0, 9, 0), (0, 10, 0), (1, 1, 0), (1, 2, None), (1, 8, None),
            (1, 9, 0), (2, 0, 0), (-1, 5, 0), (-2, 5, 0), (99, 5, 0), (0, 10 ** 40, 0), (0, -10 ** 40, 0),
        ):
            self.assertEqual(self.checked(grid, sizes, costs, (13, [7, 2]), [("split", unit, at)] + done), found)
        one = Grid(1, [], [Unit("u", 0, 5, 5, 1)], [Load("d", 0)])
        for at in (4, 5, 6):
            self.assertEqual(self.checked(one, [5], [1], (None, None), [("split", 0, at), ("empty",)]), 0)

    def test_harm(self):
        """Each watch is broken by more than nothing, or the row is wrong."""
        grid = Grid(1, [], [Unit("u", 0, 0, 9, 1), Unit("v", 0, 0, 20, 1)], [Load("d", 0)])
        titles = [(watch.case, watch.kind, watch.place, watch.most) for watch in watches(grid)]
        at = titles.index(("v", "high", "u", 9))
        for size, found in ((9, 0), (10, None), (11, None), (29, None)):
            self.assertEqual(self.checked(grid, [size], [1, 1], (None, None), [("harm", at, [(0, 1)])]), found)
        for number in (at - len(titles), -1, -len(titles), len(titles), len(titles) + 5, 10 ** 30):
            self.assertEqual(self.checked(grid, [10], [1, 1], (None, None), [("harm", number, [(0, 1)])]), 0)
        for prices in ([], [(1, 1), (1, 1)], [(0, 1)] * 9):
            self.assertEqual(self.checked(grid, [10], [1, 1], (None, None), [("harm", at, prices)]), 0)
        for number in range(len(titles)):
            for price in range(-2, 3):
                self.checked(grid, [10], [1, 1], (None, None), [("harm", number, [(price, 1)])])

    def test_empty_boxes(self):
        """For an empty box, too, the bound alone decides about the rows "harm" and "cost"."""
        grid = Grid(1, [], [Unit("u", 0, 0, 9, 1), Unit("v", 0, 0, 9, 1)], [Load("d", 0)])
        none = (None, None)
        self.assertIsNone(self.checked(grid, [30], [1, 1], none, [("empty",)]))
        self.assertEqual(self.checked(grid, [30], [1, 1], none, [("cost", [(0, 1)])]), 0)
        seen = {None: 0, 0: 0}
        for number in range(len(watches(grid))):
            for price in range(-3, 4):
                seen[self.checked(grid, [30], [1, 1], none, [("harm", number, [(price, 1)])])] += 1
        self.assertGreater(min(seen.values()), 3)
        low = Grid(1, [], [Unit("u", 0, 0, 9, 1), Unit("v", 0, 3, 9, 1)], [Load("d", 0)])
        rows = [("split", 0, 6), ("cost", [(1, 1)]), ("cost", [(1, 1)])]
        self.assertIsNone(self.checked(low, [9], [1, 1], (9, [5, 4]), rows))
        self.assertEqual(self.checked(low, [9], [1, 1], (9, [5, 4]), rows[:2] + [("cost", [(9, 1)])]), 2)

    def test_several_islands(self):
        grid = Grid(2, [], [Unit("u", 0, 0, 9, 1), Unit("v", 0, 0, 9, 1), Unit("w", 1, 0, 0, 1)], [Load("d", 0)])
        self.assertIsNone(self.checked(grid, [5], [1, 2, 3], (5, [5, 0, 0]), [("cost", [(1, 1), (0, 1)])]))
        for prices in ([(1, 1)], [(1, 1)] * 3, []):
            self.assertEqual(self.checked(grid, [5], [1, 2, 3], (5, [5, 0, 0]), [("cost", prices)]), 0)

    def test_no_units(self):
        grid = Grid(1, [], [], [Load("d", 0)])
        self.assertIsNone(self.checked(grid, [0], [], (0, []), [("cost", [(0, 1)])]))
        self.assertEqual(self.checked(grid, [0], [], (0, []), [("split", 0, 0)]), 0)
        self.assertEqual(self.checked(grid, [0], [], (0, []), []), 0)
        self.assertEqual(self.checked(grid, [1], [], (0, []), [("cost", [(0, 1)])]), -1)
        self.assertIsNone(self.checked(grid, [1], [], (None, None), [("empty",)]))
        self.assertEqual(self.checked(grid, [0], [], (None, None), [("empty",)]), 0)


class ChangedProofs(CheckTest):
    def changed(self, chance, grid, proof):
        """A proof with one row left out, doubled, moved, added, or changed in one number."""
        rows = copied(proof)
        k = chance.randrange(len(rows))
        kind = chance.choice(["out", "double", "move", "add", "number", "number", "number", "cut"])
        if kind == "out":
            del rows[k]
        elif kind == "double":
            rows.insert(k, rows[k])
        elif kind == "move":
            rows.insert(chance.randrange(len(rows)), rows.pop(k))
        elif kind == "cut":
            rows = rows[:k]
        elif kind == "add":
            rows.insert(chance.randint(0, len(rows)), self.drawn_row(chance, grid))
        else:
            rows[k] = self.other_row(chance, grid, rows[k])
        return rows

    def drawn_row(self, chance, grid):
        prices = [pair(Fraction(chance.randint(-5, 5))) for _ in island_lists(grid)]
        return chance.choice([
            ("empty",), ("cost", prices), ("harm", chance.randint(-1, len(watches(grid))), prices),
            ("split", chance.randint(-1, len(grid.units)), chance.randint(-1, 9)),
        ])

    def other_row(self, chance, grid, row):
        if row[0] == "split":
            return ("split", row[1] + chance.choice([0, 0, -1, 1]), row[2] + chance.choice([-9, -1, 1, 9]))
        if row[0] == "empty":
            return self.drawn_row(chance, grid)
        prices = list(row[-1])
        step = Fraction(chance.choice([-3, -1, 1, 3]), chance.choice([1, 2, 7]))
        if chance.random() < 0.2:
            return row[:-1] + (chance.choice([prices + [(0, 1)], prices[1:]]),)
        if not prices:
            return row
        at = chance.randrange(len(prices))
        prices[at] = pair(value(prices[at]) + step)
        if row[0] == "harm" and chance.random() < 0.3:
            return ("harm", row[1] + chance.choice([-1, 1, 2]), list(row[-1]))
        return row[:-1] + (prices,)

    def test_drawn_changes(self):
        chance = random.Random(294)
        seen = {True: 0, False: 0}
        for grid, sizes, costs in drawn_plans(294, 150):
            cost, outs, proof = plan(grid, sizes, costs)
            for _ in range(8):
                rows = proof
                for _ in range(chance.choice([1, 1, 2])):
                    rows = self.changed(chance, grid, rows) if rows else rows
                found = self.checked(grid, sizes, costs, (cost, outs), rows)
                seen[found is None] += 1
                if found is not None:
                    self.assertTrue(0 <= found <= len(rows))
        self.assertGreater(min(seen.values()), 60)

    def test_what_is_accepted_is_true(self):
        """Drawn rows that close all boxes never show more than is so."""
        chance = random.Random(295)
        accepted = 0
        for grid, sizes, costs in drawn_plans(295, 60):
            least = least_cost(grid, sizes, costs)
            even = [outs for outs in all_outs(grid) if is_safe(grid, sizes, outs)]
            claims = [(None, None)] + [(cost_of(costs, outs), outs) for outs in chance.sample(even, min(3, len(even)))]
            for claim in claims:
                for _ in range(30):
                    rows = [self.drawn_row(chance, grid) for _ in range(chance.choice([1, 1, 3]))]
                    if self.checked(grid, sizes, costs, claim, rows) is None:
                        accepted += 1
                        self.assertEqual(claim[0], least)
        self.assertGreater(accepted, 20)

    def test_lists_that_are_changed(self):
        for grid, sizes, costs in drawn_plans(296, 30):
            cost, outs, proof = plan(grid, sizes, costs)
            kept = copied(proof)
            for row in proof:
                if row[0] in ("harm", "cost"):
                    row[-1].append((0, 1))
            self.assertIsNone(self.checked(grid, sizes, costs, (cost, outs), kept))


class Lines(CheckTest):
    def test_a_watch_that_is_met_exactly(self):
        lines = [Line("a", 0, 1, 1, 12), Line("b", 0, 1, 1, 12)]
        units = [Unit("u", 0, 0, 30, 1), Unit("v", 0, 0, 30, 1)]
        grid = Grid(2, lines, units, [Load("d", 1)])
        at = [(watch.case, watch.kind, watch.place) for watch in watches(grid)].index(("a", "forth", "b"))
        for size, found in ((12, 0), (13, None)):
            self.assertEqual(self.checked(grid, [size], [1, 1], (None, None), [("harm", at, [(0, 1)])]), found)
        self.assertEqual(plan(grid, [12], [1, 1])[0], 12)
        self.assertIsNone(plan(grid, [13], [1, 1])[0])
