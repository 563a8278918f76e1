import random
import unittest
from fractions import Fraction

from lampward.flow.solving import solve
from tests.helpers import assert_fraction, pair, value


def as_rows(rows):
    return [[pair(number) for number in row] for row in rows]


def has_one_solution(rows):
    """Tell, by an elimination of its own, whether the factors of the unknowns are independent."""
    left = [[Fraction(number) for number in row[:-1]] for row in rows]
    for column in range(len(rows)):
        useful = [row for row in left if row[column] != 0]
        if not useful:
            return False
        top = useful[0]
        left = [row for row in left if row is not top]
        left = [[a - b * row[column] / top[column] for a, b in zip(row, top)] for row in left]
    return True


def made_factors(chance, many, zeros):
    """A square of small numbers, many of them 0."""
    def number():
        if chance.random() < zeros:
            return Fraction(0)
        return Fraction(chance.randint(-9, 9), chance.randint(1, 4))
    return [[number() for _ in range(many)] for _ in range(many)]


def times_all(factors, solution):
    return [sum((a * x for a, x in zip(row, solution)), Fraction(0)) for row in factors]


class Solve(unittest.TestCase):
    def assert_solution(self, rows, expected):
        given = as_rows(rows)
        found = solve(given)
        self.assertIs(type(found), list)
        self.assertEqual(len(found), len(expected))
        for a, number in zip(found, expected):
            assert_fraction(self, a, number)
        self.assertEqual(given, as_rows(rows))
        found.append("X")
        found.reverse()
        self.assertEqual(solve(given), [pair(number) for number in expected])
        self.assertEqual(given, as_rows(rows))

    def assert_none(self, rows):
        given = as_rows(rows)
        self.assertIsNone(solve(given))
        self.assertEqual(given, as_rows(rows))
        self.assertIsNone(solve(given))

    def test_no_equations(self):
        self.assert_solution([], [])

    def test_one_equation(self):
        self.assert_solution([[2, 6]], [3])
        self.assert_solution([[-4, 6]], [Fraction(-3, 2)])
        self.assert_solution([[Fraction(2, 3), Fraction(5, 7)]], [Fraction(15, 14)])
        self.assert_solution([[5, 0]], [0])
        self.assert_none([[0, 0]])
        self.assert_none([[0, 1]])

    def test_two_equations(self):
        self.assert_solution([[1, 1, 3], [1, -1, 1]], [2, 1])
        self.assert_solution([[2, 3, 0], [4, -1, 0]], [0, 0])
        self.assert_none([[1, 1, 3], [2, 2, 6]])
        self.assert_none([[1, 1, 3], [2, 2, 7]])
        self.assert_none([[0, 0, 0], [0, 0, 0]])
        self.assert_none([[1, 0, 5], [1, 0, 5]])
        self.assert_none([[0, 1, 5], [0, 1, 6]])
        self.assert_none([[0, 1, 5], [0, 0, 0]])
        self.assert_none([[1, 2, 0], [2, 4, 0]])
        self.assert_none([[0, 1, 1], [0, 2, 3]])

    def test_zero_where_a_division_would_start(self):
        self.assert_solution([[0, 1, 5], [1, 0, 7]], [7, 5])
        self.assert_solution([[0, 2, 6], [3, 1, 6]], [1, 3])
        self.assert_solution([[1, 1, 1, 6], [1, 1, 2, 9], [1, 2, 1, 8]], [1, 2, 3])
        self.assert_solution([[0, 0, 1, 1], [0, 1, 0, 2], [1, 0, 0, 3]], [3, 2, 1])
        self.assert_solution([[0, 0, 2, 1], [4, 0, 0, 2], [0, 3, 0, 3]], [Fraction(1, 2), 1, Fraction(1, 2)])

    def test_rows_in_any_order(self):
        for many in range(2, 13):
            for shift in range(many):
                rows = [[int((k + shift) % many == j) for j in range(many)] + [k] for k in range(many)]
                self.assert_solution(rows, [(j - shift) % many for j in range(many)])

    def test_several_but_not_none_in_the_last_rows(self):
        self.assert_none([[1, 0, 0, 1], [0, 1, 1, 2], [0, 2, 2, 4]])
        self.assert_none([[1, 0, 0, 1], [0, 1, 1, 2], [0, 2, 2, 5]])
        self.assert_none([[1, 2, 3, 1], [4, 5, 6, 2], [7, 8, 9, 3]])
        self.assert_none([[1, 2, 3, 1], [4, 5, 6, 2], [7, 8, 9, 4]])

    def test_made_systems(self):
        chance = random.Random(12)
        solved = 0
        for k in range(260):
            many = k % 13
            factors = made_factors(chance, many, chance.choice([0, 0.3, 0.6]))
            solution = [Fraction(chance.randint(-20, 20), chance.randint(1, 6)) for _ in range(many)]
            rows = [row + [right] for row, right in zip(factors, times_all(factors, solution))]
            if has_one_solution(rows):
                solved += 1
                self.assert_solution(rows, solution)
            else:
                self.assert_none(rows)
        self.assertGreater(solved, 100)

    def test_dependent_systems(self):
        chance = random.Random(13)
        for k in range(130):
            many = 2 + k % 11
            factors = made_factors(chance, many, 0.2)
            at, one, other = [chance.randrange(many) for _ in range(3)]
            if at in (one, other):
                continue
            p, q = chance.randint(-3, 3), chance.randint(-3, 3)
            factors[at] = [p * a + q * b for a, b in zip(factors[one], factors[other])]
            rights = times_all(factors, [Fraction(j) for j in range(many)])
            self.assert_none([row + [right] for row, right in zip(factors, rights)])
            rights[at] += 1
            self.assert_none([row + [right] for row, right in zip(factors, rights)])

    def test_large_numbers(self):
        big = 10 ** 30 - 1
        self.assert_solution([[big, 1, big + 1], [1, big, big + 1]], [1, 1])
        self.assert_none([[big, 1, 5], [big * big, big, 5 * big]])
        self.assert_solution([[Fraction(1, big), Fraction(1, 3)]], [Fraction(big, 3)])

    def test_changed_answers_change_nothing(self):
        rows = as_rows([[1, 1, 3], [1, -1, 1]])
        first = solve(rows)
        second = solve(rows)
        first.clear()
        self.assertEqual(second, [(2, 1), (1, 1)])
        empty = solve([])
        empty.append("X")
        self.assertEqual(solve([]), [])

    def test_values_fulfil_the_equations(self):
        chance = random.Random(14)
        for k in range(60):
            many = 1 + k % 6
            rows = [row + [Fraction(chance.randint(-9, 9), 7)] for row in made_factors(chance, many, 0.1)]
            found = solve(as_rows(rows))
            self.assertEqual(found is not None, has_one_solution(rows))
            if found is not None:
                values = [value(a) for a in found]
                self.assertEqual(times_all([row[:-1] for row in rows], values), [row[-1] for row in rows])
