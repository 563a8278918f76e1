"""The whole program at work: what the document promises over all its parts together."""

import random
import unittest

from lampward.box.boxes import Box
from lampward.box.changing import draw_in, widen
from lampward.box.points import even_point, is_even
from lampward.desk.desk import Desk
from lampward.desk.rebuilding import rebuild
from lampward.grant.granting import grant
from lampward.grant.proving import check, prove
from lampward.grant.watches import watches
from lampward.loss.harms import harmless, harms
from lampward.net.cases import cases
from lampward.plan.checking import check_plan
from lampward.plan.planning import plan
from lampward.reach.drifting import reach
from lampward.reach.keeping import kept
from lampward.text.boxes import read_box, write_box
from lampward.text.grids import read_grid, write_grid
from lampward.text.proofs import read_proof, write_proof
from lampward.worst.sums import bound
from tests.helpers import even_points_of, point_within, ranges_around, sturdy_grid, value, view


def drawn(seed, many):
    chance = random.Random(seed)
    for _ in range(many):
        grid = sturdy_grid(chance, chance.choice([9, 30]), (9, 15, 20, 40))
        sizes, outs = point_within(chance, grid, 1, 6)
        yield chance, grid, sizes, outs, ranges_around(chance, grid, sizes, outs, 2)


class Whole(unittest.TestCase):
    def test_boxes_that_are_sent_as_texts(self):
        """What is granted here is proven there, and what is refused here has no proof there."""
        seen = {True: 0, False: 0}
        for _, grid, _, _, ranges in drawn(301, 120):
            there = read_grid(write_grid(grid))
            box = read_box(there, write_box(grid, Box(*ranges)))
            self.assertEqual((view(there), box), (view(grid), Box(*ranges)))
            refusal = grant(there, box)
            seen[refusal is None] += 1
            if refusal is None:
                proof = read_proof(write_proof(prove(grid, Box(*ranges))))
                self.assertIsNone(check(there, box, proof))
                for watch, prices in zip(watches(there), proof):
                    self.assertLessEqual(value(bound(there, box, watch.weights, prices)), watch.most)
            else:
                self.assertTrue(is_even(there, refusal.sizes, refusal.outs))
                self.assertTrue(box.holds(refusal.sizes, refusal.outs))
                self.assertNotEqual(harms(there, refusal.case, refusal.sizes, refusal.outs), [])
        self.assertGreater(min(seen.values()), 20)

    def test_granted_boxes_stay_whole(self):
        """At each even point of a granted box, each line and unit keeps its limits in each case."""
        many = 0
        for _, grid, _, _, ranges in drawn(302, 40):
            if grant(grid, Box(*ranges)) is None:
                for point in even_points_of(grid, *ranges)[:20]:
                    many += 1
                    self.assertEqual([harms(grid, case, *point) for case in cases(grid)], [[]] * len(cases(grid)))
        self.assertGreater(many, 50)

    def test_desks_are_sure_only_where_no_loss_does_harm(self):
        sure = 0
        for chance, grid, sizes, outs, ranges in drawn(303, 60):
            desk = Desk(grid)
            desk.see(sizes, outs)
            desk.ask(Box(*ranges))
            for _ in range(3):
                if desk.sure():
                    sure += 1
                    self.assertEqual(desk.alarms(), [])
                    self.assertTrue(harmless(desk.now(), *desk.point()))
                names = cases(desk.now())[1:]
                if not names:
                    break
                name = chance.choice(names)
                was_sure, found = desk.sure(), desk.lose(name)
                self.assertTrue(not was_sure or found == [])
                self.assertFalse(desk.sure())
                now = desk.now()
                point = even_point(now, Box([(0, n) for n in sizes], [(unit.low, unit.high) for unit in now.units]))
                desk.see(*point)
                desk.ask(Box([(n, n) for n in point[0]], [(n, n) for n in point[1]]))
                self.assertEqual(desk.sure(), harmless(now, *point))
            again = rebuild(read_grid(write_grid(grid)), desk.journal())
            self.assertEqual((again.journal(), again.sure(), again.lost()), (desk.journal(), desk.sure(), desk.lost()))
        self.assertGreater(sure, 60)

    def test_plans_are_granted(self):
        """A plan is a point that is granted as a box, that can be kept, and at which the desk can be sure."""
        many = 0
        for _, grid, sizes, _, _ in drawn(304, 60):
            costs = [3 + k for k in range(len(grid.units))]
            cost, outs, proof = plan(grid, sizes, costs)
            self.assertIsNone(check_plan(grid, sizes, costs, (cost, outs), proof))
            if outs is None:
                continue
            many += 1
            one = Box([(n, n) for n in sizes], [(n, n) for n in outs])
            wide = Box([(0, 999)] * len(sizes), [(unit.low, unit.high) for unit in grid.units])
            self.assertIsNone(grant(grid, one))
            share = kept(grid, wide, sizes, outs, 999)
            inner = draw_in(wide, sizes, outs, share, 999)
            self.assertIsNone(grant(grid, inner))
            rates = [1] * len(sizes), [1] * len(outs)
            steps = reach(grid, inner, rates, 5)
            desk = Desk(grid)
            desk.see(sizes, outs)
            self.assertIsNone(desk.ask(widen(grid, inner, rates, steps)))
            self.assertIs(desk.sure(), True)
        self.assertGreater(many, 20)
