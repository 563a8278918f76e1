import itertools
import math
import random
import unittest

from lampward.errors import BadText
from lampward.num.writing import read_fraction, write_fraction
from tests.helpers import assert_fraction, value

SIXTY = "1234567890" * 6
TEXTS = {
    "0": (0, 1), "7": (7, 1), "-7": (-7, 1), "3/4": (3, 4), "-10/3": (-10, 3), "10": (10, 1), "100/101": (100, 101),
    "1/2": (1, 2), "-1/2": (-1, 2), "-1": (-1, 1), "999/1000": (999, 1000),
    SIXTY: (int(SIXTY), 1), "-" + SIXTY: (-int(SIXTY), 1), "1/" + SIXTY: (1, int(SIXTY)),
    "-" + "9" * 60 + "/1" + "0" * 59: (-int("9" * 60), 10 ** 59),
}
REFUSED = [
    "2/4", "3/1", "-0", "+1", "01", "1/0", "", "1 /2",
    " ", "-", "/", "+", "-/", "/2", "1/", "-/2", "-1/", "0/1", "0/2", "0/0", "-0/1", "-0/3", "1/1", "-3/1", "-2/4",
    "00", "-01", "01/2", "1/02", "1/00", "--1", "-+1", "+-1", "1-", "1/-2", "-1/-2", "1/+2", "1//2", "1/2/3", "1/2/",
    " 1", "1 ", "- 1", "1/ 2", " 1/2", "1/2 ", "1 2", "1\n", "\n1", "1/2\n", "\n", "1\n2", "1/\n2", "a\nb\n1",
    "a", "1a", "a1", "x/2", "1/x", "1.0", ".5", "1.", "1e3", "0x1", "1_0", "1/1_0", "1,0", "(1, 2)", "1:2", "1\\2",
    "1" + "0" * 60, "-1" + "0" * 60, "1/1" + "0" * 60, "1" + "0" * 60 + "/7", "0" + SIXTY, "0" * 61, "0" * 60,
    "1" * 61 + "/" + "1" * 61, "1" * 5000, "-" + "1" * 5000, "1/" + "1" * 5000, "1" * 200000, "0" * 200000,
    "/" * 1000, "-" * 1000, " " * 1000, "\n" * 1000,
]


class Writing(unittest.TestCase):
    def test_examples(self):
        for text, a in TEXTS.items():
            self.assertEqual(write_fraction(a), text)

    def test_all_small_ones(self):
        for n in range(-30, 31):
            self.assertEqual(write_fraction((n, 1)), str(n))
            for d in range(2, 30):
                if math.gcd(n, d) == 1:
                    self.assertEqual(write_fraction((n, d)), str(n) + "/" + str(d))


class Reading(unittest.TestCase):
    def assert_refused(self, text):
        with self.assertRaises(BadText, msg=repr(text[:80])) as caught:
            read_fraction(text)
        self.assertEqual(caught.exception.line, 1)

    def test_examples(self):
        for text, a in TEXTS.items():
            assert_fraction(self, read_fraction(text), value(a))
            self.assertEqual(read_fraction(text), a)

    def test_refused(self):
        for text in REFUSED:
            self.assert_refused(text)

    def test_all_short_texts(self):
        accepted = {}
        for n in range(-999, 10000):
            accepted[str(n)] = (n, 1)
        for n in range(-99, 100):
            for d in range(2, 100):
                if math.gcd(n, d) == 1:
                    accepted[str(n) + "/" + str(d)] = (n, d)
        for length in range(5):
            for signs in itertools.product("0124-/+ \n", repeat=length):
                text = "".join(signs)
                if text in accepted:
                    self.assertEqual(read_fraction(text), accepted[text])
                else:
                    self.assert_refused(text)

    def test_another_sign_at_any_place(self):
        for text in ("12", "-34", "56/79", "-10/3"):
            self.assertEqual(write_fraction(read_fraction(text)), text)
            for place in range(len(text) + 1):
                for sign in " \n+_.a(":
                    self.assert_refused(text[:place] + sign + text[place:])

    def test_every_sign_by_itself(self):
        for code in [10] + list(range(32, 127)):
            sign = chr(code)
            if sign in "0123456789":
                self.assertEqual(read_fraction(sign), (code - 48, 1))
            elif sign != "\x25":
                self.assert_refused(sign)

    def test_what_is_written_is_read_back(self):
        chance = random.Random(3)
        for _ in range(300):
            n = chance.randint(-10 ** chance.randint(1, 60) + 1, 10 ** chance.randint(1, 60) - 1)
            d = chance.randint(1, 10 ** chance.randint(1, 60) - 1)
            common = math.gcd(n, d)
            a = (n // common, d // common)
            self.assertEqual(read_fraction(write_fraction(a)), a)
            if common > 1:
                self.assert_refused(str(n) + "/" + str(d))
