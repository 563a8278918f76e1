import random
import unittest
from fractions import Fraction

from lampward.errors import ZeroBottom
from lampward.num.fractions import ceiling, floor, fraction, less, minus, over, plus, times, total
from tests.helpers import assert_fraction, pair, value

BIG = 10 ** 60 - 1
SMALL = sorted({Fraction(n, d) for n in range(-7, 8) for d in range(1, 7)})
LARGE = [
    Fraction(BIG), Fraction(-BIG), Fraction(1, BIG), Fraction(-1, BIG), Fraction(BIG - 1, BIG),
    Fraction(BIG, BIG - 1), Fraction(-BIG, 7 * 10 ** 58), Fraction(10 ** 59 + 1, 3 ** 100),
]
ALL = SMALL + LARGE


class Making(unittest.TestCase):
    def test_examples_of_the_document(self):
        self.assertEqual(fraction(6, -4), (-3, 2))
        self.assertEqual(fraction(0, 7), (0, 1))

    def test_all_small_quotients(self):
        for n in range(-24, 25):
            for d in range(-24, 25):
                if d != 0:
                    assert_fraction(self, fraction(n, d), Fraction(n, d))

    def test_zero_above(self):
        for d in (1, -1, 12, -12, BIG, -BIG):
            self.assertEqual(fraction(0, d), (0, 1))

    def test_whole(self):
        for n in (0, 1, -1, 999, BIG, -BIG):
            self.assertEqual(fraction(n, 1), (n, 1))
            self.assertEqual(fraction(n, -1), (-n, 1))

    def test_sixty_digits(self):
        for n, d in [(BIG, BIG), (BIG, -BIG), (BIG - 1, BIG), (-BIG, 9 * 10 ** 59), (6 ** 77, 10 ** 59), (-1, -BIG)]:
            assert_fraction(self, fraction(n, d), Fraction(n, d))

    def test_zero_below(self):
        for n in (0, 1, -1, 7, BIG, -BIG):
            with self.assertRaises(ZeroBottom):
                fraction(n, 0)


class Reckoning(unittest.TestCase):
    def test_sums_differences_and_products(self):
        for a in ALL:
            for b in ALL:
                assert_fraction(self, plus(pair(a), pair(b)), a + b)
                assert_fraction(self, minus(pair(a), pair(b)), a - b)
                assert_fraction(self, times(pair(a), pair(b)), a * b)

    def test_quotients(self):
        for a in ALL:
            for b in ALL:
                if b != 0:
                    assert_fraction(self, over(pair(a), pair(b)), a / b)

    def test_division_by_zero(self):
        for a in ALL:
            with self.assertRaises(ZeroBottom):
                over(pair(a), (0, 1))

    def test_equal_and_opposite_ones(self):
        for a in ALL:
            self.assertEqual(minus(pair(a), pair(a)), (0, 1))
            self.assertEqual(plus(pair(a), pair(-a)), (0, 1))

    def test_made_ones(self):
        chance = random.Random(1)
        for _ in range(300):
            below = [chance.randint(1, 10 ** chance.randint(1, 60) - 1) for _ in "ab"]
            a, b = [Fraction(chance.randint(-BIG, BIG), d) for d in below]
            assert_fraction(self, plus(pair(a), pair(b)), a + b)
            assert_fraction(self, minus(pair(a), pair(b)), a - b)
            assert_fraction(self, times(pair(a), pair(b)), a * b)
            if b != 0:
                assert_fraction(self, over(pair(a), pair(b)), a / b)


class Totals(unittest.TestCase):
    def test_empty(self):
        self.assertEqual(total([]), (0, 1))
        assert_fraction(self, total([]), 0)

    def test_one(self):
        for a in ALL:
            assert_fraction(self, total([pair(a)]), a)

    def test_sums(self):
        chance = random.Random(2)
        for many in list(range(2, 12)) + [200]:
            values = [chance.choice(SMALL) for _ in range(many)]
            assert_fraction(self, total([pair(a) for a in values]), sum(values))
        assert_fraction(self, total([pair(a) for a in LARGE]), sum(LARGE))

    def test_opposite_ones(self):
        self.assertEqual(total([(1, 3), (1, 6), (-1, 2)]), (0, 1))
        self.assertEqual(total([(BIG, 7), (-BIG, 7)]), (0, 1))

    def test_equal_ones(self):
        self.assertEqual(total([(1, 6), (1, 6), (1, 6)]), (1, 2))

    def test_list_stays(self):
        for given in ([], [(1, 2)], [(1, 2), (-1, 3), (5, 1)]):
            before = list(given)
            first = total(given)
            self.assertEqual(given, before)
            self.assertEqual(total(given), first)


class Order(unittest.TestCase):
    def test_less_is_the_order_of_the_values(self):
        for a in ALL:
            for b in ALL:
                self.assertIs(less(pair(a), pair(b)), a < b)

    def test_close_ones(self):
        low, high = (BIG - 2, BIG - 1), (BIG - 1, BIG)
        self.assertIs(less(low, high), True)
        self.assertIs(less(high, low), False)
        self.assertIs(less((-BIG, BIG - 1), (-1, 1)), True)


class Rounding(unittest.TestCase):
    def test_floor_and_ceiling(self):
        for a in ALL:
            for found in (floor(pair(a)), ceiling(pair(a))):
                self.assertIs(type(found), int)
            self.assertTrue(floor(pair(a)) <= a < floor(pair(a)) + 1)
            self.assertTrue(ceiling(pair(a)) - 1 < a <= ceiling(pair(a)))

    def test_whole_ones_stay(self):
        for n in (0, 5, -5, BIG, -BIG):
            self.assertEqual(floor((n, 1)), n)
            self.assertEqual(ceiling((n, 1)), n)

    def test_negative_ones(self):
        self.assertEqual((floor((-1, 2)), ceiling((-1, 2))), (-1, 0))
        self.assertEqual((floor((-10, 3)), ceiling((-10, 3))), (-4, -3))
        self.assertEqual((floor((-BIG, 10)), ceiling((-BIG, 10))), (-10 ** 59, 1 - 10 ** 59))


class Helpers(unittest.TestCase):
    def test_pair_and_value_agree(self):
        for a in ALL:
            self.assertEqual(value(pair(a)), a)
