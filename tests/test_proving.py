import random
import unittest
from fractions import Fraction

from lampward.box.boxes import Box
from lampward.errors import EmptyBox, Misfit, NotGranted
from lampward.grant.granting import grant
from lampward.grant.proving import check, prove
from lampward.grant.watches import watches
from lampward.net.grid import Grid, Line, Load, Unit
from tests.helpers import (
    assert_fraction, even_points_of, island_lists, made_grids, misfits, pair, point_within, ranges_around, ranges_of,
    slow_bound, small_box, small_grid, sturdy_grid, value, view,
)


def exact_bound(grid, ranges, watch, prices):
    weights = [value(weight) for weight in watch.weights[0]], [value(weight) for weight in watch.weights[1]]
    return slow_bound(grid, *ranges, weights, [value(price) for price in prices])


def slow_check(grid, ranges, proof):
    """What check is to return, as point [47] and the interface tell it."""
    found, islands = watches(grid), len(island_lists(grid))
    for number, watch in enumerate(found):
        if number >= len(proof) or len(proof[number]) != islands:
            return number
        if exact_bound(grid, ranges, watch, proof[number]) > watch.most:
            return number
    return len(found) if len(proof) > len(found) else None


def drawn_boxes(seed, many):
    """Grids with ranges of boxes that are not empty."""
    chance = random.Random(seed)
    for k in range(many):
        if k % 4 == 0:
            grid = small_grid(chance)
            ranges = small_box(chance, grid)
            if not even_points_of(grid, *ranges):
                continue
        else:
            grid = sturdy_grid(chance, 30, (9, 20, 40, 99))
            ranges = ranges_around(chance, grid, *point_within(chance, grid, 1, 9), 5)
        yield grid, ranges


def granted_boxes(seed, many):
    return [(grid, ranges) for grid, ranges in drawn_boxes(seed, many) if grant(grid, Box(*ranges)) is None]


def copied(proof):
    return [list(prices) for prices in proof]


class Proving(unittest.TestCase):
    def test_each_granted_box_has_one(self):
        seen = {True: 0, False: 0}
        for grid, ranges in drawn_boxes(211, 250):
            box, before = Box(*ranges), view(grid)
            is_granted = grant(grid, box) is None
            seen[is_granted] += 1
            if is_granted:
                self.assert_proof(grid, ranges, prove(grid, box))
                self.assertIsNone(check(grid, box, prove(grid, box)))
            else:
                with self.assertRaises(NotGranted):
                    prove(grid, box)
            self.assertEqual((ranges_of(box), view(grid)), ((tuple(ranges[0]), tuple(ranges[1])), before))
        self.assertGreater(min(seen.values()), 60)

    def assert_proof(self, grid, ranges, proof):
        found = watches(grid)
        self.assertIs(type(proof), list)
        self.assertEqual(len(proof), len(found))
        for watch, prices in zip(found, proof):
            self.assertIs(type(prices), list)
            self.assertEqual(len(prices), len(island_lists(grid)))
            for price in prices:
                assert_fraction(self, price, value(price))
            self.assertLessEqual(exact_bound(grid, ranges, watch, prices), watch.most)

    def test_lists_that_are_changed(self):
        for grid, ranges in granted_boxes(212, 40):
            box = Box(*ranges)
            first, kept = prove(grid, box), prove(grid, box)
            for prices in first:
                prices.append("X")
                prices.reverse()
            first.append("X")
            self.assertEqual(prove(grid, box), kept)
            self.assertIsNone(check(grid, box, kept))
            self.assertIsNone(check(grid, box, prove(grid, box)))

    def test_proofs_of_outer_boxes_are_proofs_of_inner_ones(self):
        chance = random.Random(213)
        many = 0
        for grid, ranges in granted_boxes(213, 80):
            proof = prove(grid, Box(*ranges))
            inner = [[tuple(sorted([chance.randint(*row), chance.randint(*row)])) for row in rows] for rows in ranges]
            if even_points_of(grid, *inner):
                many += 1
                self.assertIsNone(check(grid, Box(*inner), proof))
        self.assertGreater(many, 15)


class Checking(unittest.TestCase):
    def assert_checked(self, grid, ranges, proof):
        box, kept, before = Box(*ranges), copied(proof), view(grid)
        found = check(grid, box, proof)
        self.assertEqual(found, slow_check(grid, ranges, proof))
        self.assertEqual((proof, ranges_of(box), view(grid)), (kept, (tuple(ranges[0]), tuple(ranges[1])), before))
        return found

    def test_other_prices(self):
        """A proof in which prices are changed by little or much is held against the bounds."""
        chance = random.Random(214)
        seen = {True: 0, False: 0}
        for grid, ranges in granted_boxes(214, 120):
            proof = prove(grid, Box(*ranges))
            for _ in range(6):
                other = copied(proof)
                for _ in range(chance.choice([1, 1, 3, 20])):
                    prices = chance.choice(other)
                    k = chance.randrange(len(prices))
                    step = Fraction(chance.randint(-9, 9), chance.choice([1, 1, 5, 1000]))
                    prices[k] = pair(value(prices[k]) + step)
                seen[self.assert_checked(grid, ranges, other) is None] += 1
        self.assertGreater(min(seen.values()), 30)

    def test_too_many_and_too_few(self):
        for grid, ranges in granted_boxes(215, 16):
            proof, many = prove(grid, Box(*ranges)), len(watches(grid))
            self.assertIsNone(self.assert_checked(grid, ranges, proof))
            self.assertEqual(self.assert_checked(grid, ranges, []), 0)
            self.assertEqual(self.assert_checked(grid, ranges, proof[:-1]), many - 1)
            self.assertEqual(self.assert_checked(grid, ranges, proof[:1]), 1 if many > 1 else None)
            self.assertEqual(self.assert_checked(grid, ranges, proof + [list(proof[0])]), many)
            self.assertEqual(self.assert_checked(grid, ranges, proof + [[]]), many)
            self.assertEqual(self.assert_checked(grid, ranges, proof + proof), many)
            for k in (0, many // 2, many - 1):
                for wrong in (proof[k] + [(0, 1)], proof[k][1:], [], proof[k] * 2):
                    other = copied(proof)
                    other[k] = wrong
                    self.assertEqual(self.assert_checked(grid, ranges, other), k)
                    self.assertEqual(self.assert_checked(grid, ranges, other + [[(0, 1)]]), k)
                    other[-1] = []
                    self.assertEqual(self.assert_checked(grid, ranges, other), k)

    def test_refused_boxes_have_none(self):
        """Not the best prices, not those of another box, and not drawn ones."""
        chance = random.Random(216)
        many = 0
        for grid, ranges in drawn_boxes(216, 90):
            box = Box(*ranges)
            if grant(grid, box) is None:
                continue
            many += 1
            islands = len(island_lists(grid))
            for _ in range(5):
                drawn = [pair(Fraction(chance.randint(-4, 4), chance.randint(1, 4))) for _ in range(islands)]
                proof = [list(drawn) for _ in watches(grid)]
                self.assertIsNotNone(self.assert_checked(grid, ranges, proof))
            points = even_points_of(grid, *ranges) if len(grid.units) < 3 else []
            for sizes, outs in points[:3]:
                one = Box([(n, n) for n in sizes], [(n, n) for n in outs])
                if grant(grid, one) is None:
                    self.assertIsNotNone(self.assert_checked(grid, ranges, prove(grid, one)))
        self.assertGreater(many, 20)

    def test_bounds_that_are_equal_to_the_most(self):
        lines = [Line("a", 0, 1, 1, 12), Line("b", 0, 1, 1, 12)]
        units = [Unit("u", 0, 0, 12, 1), Unit("v", 0, 0, 12, 1)]
        grid = Grid(2, lines, units, [Load("d", 1)])
        ranges = [(0, 12)], [(0, 6), (0, 6)]
        proof = prove(grid, Box(*ranges))
        titles = [(watch.case, watch.kind, watch.place) for watch in watches(grid)]
        at = titles.index(("a", "forth", "b"))
        self.assertEqual(exact_bound(grid, ranges, watches(grid)[at], proof[at]), 12)
        self.assertIsNone(self.assert_checked(grid, ranges, proof))
        # For prices from 0 to 1 the bound is 12, and beyond them it is greater.
        for price, found in (((0, 1), None), ((1, 2), None), ((1, 1), None), ((-1, 1000), at), ((1001, 1000), at)):
            other = copied(proof)
            other[at] = [price]
            self.assertEqual(self.assert_checked(grid, ranges, other), found)


class Errors(unittest.TestCase):
    def assert_raises(self, error, grid, ranges, proof):
        before = view(grid)
        with self.assertRaises(error):
            prove(grid, Box(*ranges))
        kept = copied(proof)
        with self.assertRaises(error):
            check(grid, Box(*ranges), proof)
        self.assertEqual((view(grid), proof), (before, kept))

    def test_misfit(self):
        for grid in made_grids(217, 36):
            for wrong in misfits(grid):
                self.assert_raises(Misfit, grid, wrong, [[(0, 1)] * len(island_lists(grid))])
                self.assert_raises(Misfit, grid, wrong, [])

    def test_empty_boxes(self):
        units = [Unit("u" + str(bus), bus, 2, 8, 0) for bus in range(3)]
        grid = Grid(3, [], units, [Load("d" + str(bus), bus) for bus in range(3)])
        for bus in range(3):
            for row in ((9, 9), (0, 1)):
                sizes = [(2, 8)] * 3
                sizes[bus] = row
                for proof in ([], [[]], [[(0, 1)] * 3] * len(watches(grid))):
                    self.assert_raises(EmptyBox, grid, (sizes, [(2, 8)] * 3), proof)
                    self.assert_raises(Misfit, grid, (sizes, [(2, 8)] * 2 + [(2, 9)]), proof)
        with self.assertRaises(NotGranted):
            prove(grid, Box([(2, 8)] * 3, [(2, 8)] * 3))
