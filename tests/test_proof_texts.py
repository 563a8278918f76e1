import random
import unittest
from fractions import Fraction

from lampward.box.boxes import Box
from lampward.errors import BadText
from lampward.grant.granting import grant
from lampward.grant.proving import check, prove
from lampward.text.proofs import read_proof, write_proof
from tests.helpers import assert_fraction, pair, point_within, ranges_around, sturdy_grid, value

SIGNS = [chr(code) for code in range(32, 127) if chr(code) != "%"] + ["\n"]
BAD_WORDS = [
    "2/4", "3/1", "-0", "+1", "01", "1/0", "", "1 /2", "1/ 2", "1/", "/2", "-", "--1", "1/-2", "1/02", "0/1", "0/5",
    "1.5", "x", "1/2/3", "1" * 61, "1/" + "3" * 61, "-" + "9" * 61, "1" * 5000, "1/1" + "0" * 5000, "1_0", "1e1",
]


def exact_text(proof):
    return "".join(" ".join(str(value(price)) for price in prices) + "\n" for prices in proof)


def drawn_proof(chance):
    def price():
        return pair(Fraction(chance.randint(-40, 40), chance.choice([1, 1, 2, 3, 12, 999])))
    return [[price() for _ in range(chance.randint(1, 9))] for _ in range(chance.randint(0, 12))]


class Writing(unittest.TestCase):
    def test_drawn_ones(self):
        chance = random.Random(251)
        for _ in range(300):
            proof = drawn_proof(chance)
            given = [list(prices) for prices in proof]
            text = write_proof(proof)
            self.assertIs(type(text), str)
            self.assertEqual(text, exact_text(proof))
            found = read_proof(text)
            self.assertEqual((found, proof), (given, given))
            for prices in found:
                self.assertIs(type(prices), list)
                for price in prices:
                    assert_fraction(self, price, value(price))
                prices.append("X")
            found.append("X")
            self.assertEqual(read_proof(text), given)

    def test_known_ones(self):
        self.assertEqual(write_proof([]), "")
        self.assertEqual(read_proof(""), [])
        self.assertEqual(write_proof([[(0, 1)]]), "0\n")
        self.assertEqual(write_proof([[(-3, 1), (3, 4)], [(-10, 3)]]), "-3 3/4\n-10/3\n")
        self.assertEqual(read_proof("-3 3/4\n-10/3\n"), [[(-3, 1), (3, 4)], [(-10, 3)]])
        great = (10 ** 60 - 1, 10 ** 59)
        self.assertEqual(read_proof(f"{great[0]}/{great[1]}\n"), [[pair(Fraction(*great))]])

    def test_proofs_of_boxes(self):
        """A proof that is sent as a text is still a proof of the box."""
        chance = random.Random(252)
        many = 0
        for _ in range(80):
            grid = sturdy_grid(chance, 30, (9, 20, 40, 99))
            box = Box(*ranges_around(chance, grid, *point_within(chance, grid, 1, 9), 5))
            if grant(grid, box) is None:
                many += 1
                proof = prove(grid, box)
                self.assertEqual(read_proof(write_proof(proof)), proof)
                self.assertIsNone(check(grid, box, read_proof(write_proof(proof))))
        self.assertGreater(many, 20)


class Reading(unittest.TestCase):
    rows = ["0 -1/2", "7", "3/4 0 0", "-9"]

    def assert_bad(self, line, text):
        with self.assertRaises(BadText) as caught:
            read_proof(text)
        self.assertEqual(caught.exception.line, line, text[:200])

    def joined(self, rows):
        return "".join(row + "\n" for row in rows)

    def test_words(self):
        for k, row in enumerate(self.rows):
            words = row.split(" ")
            for wrong in BAD_WORDS:
                for at in range(len(words) + 1):
                    for changed in (words[:at] + [wrong] + words[at + 1:], words[:at] + [wrong] + words[at:]):
                        rows = self.rows[:k] + [" ".join(changed)] + self.rows[k + 1:]
                        self.assert_bad(k + 1, self.joined(rows))
                        self.assert_bad(k + 1, self.joined(rows[:k + 1] + ["bad"]))

    def test_empty_lines_and_blanks(self):
        for k, row in enumerate(self.rows):
            for wrong in ("", " ", row + " ", " " + row, row.replace(" ", "  ") + " ", row + "\t", row + ","):
                self.assert_bad(k + 1, self.joined(self.rows[:k] + [wrong] + self.rows[k:]))

    def test_lines_left_out_doubled_and_moved_are_read(self):
        for k, row in enumerate(self.rows):
            for rows in (self.rows[:k] + self.rows[k + 1:], self.rows + [row], [row] + self.rows):
                self.assertEqual(write_proof(read_proof(self.joined(rows))), self.joined(rows))

    def test_the_end(self):
        whole = self.joined(self.rows)
        for many in range(len(whole)):
            text = whole[:many]
            if text == "" or text.endswith("\n"):
                self.assertEqual(write_proof(read_proof(text)), text)
            else:
                self.assert_bad(text.count("\n") + 1, text)
        for more in ("\n", " ", "x", "\n\n", "5", " \n"):
            self.assert_bad(5, whole + more)
        for text in ("\n", " ", "0", "x", "\n0\n", "-"):
            self.assert_bad(1, text)

    def test_the_first_of_several(self):
        for first in range(4):
            for second in range(first, 4):
                rows = list(self.rows)
                rows[first] = rows[second] = "2/4"
                self.assert_bad(first + 1, self.joined(rows))
                self.assert_bad(first + 1, self.joined(rows)[:-1])

    def test_each_sign(self):
        """A text with one sign replaced, left out or put in is read only if it is one that is written."""
        whole = "10 -1/2\n0 34/5\n"
        seen = {True: 0, False: 0}
        for k in range(len(whole) + 1):
            for sign in SIGNS + [""]:
                for text in (whole[:k] + sign + whole[k + 1:], whole[:k] + sign + whole[k:]):
                    seen[self.is_read(text)] += 1
        self.assertGreater(min(seen.values()), 100)

    def is_read(self, text):
        try:
            found = read_proof(text)
        except BadText as error:
            self.assertTrue(1 <= error.line <= text.count("\n") + 1)
            return False
        self.assertEqual(exact_text(found), text)
        return True

    def test_long_texts(self):
        self.assertEqual(read_proof("0\n" * 90000), [[(0, 1)]] * 90000)
        self.assertEqual(len(read_proof("-1/2 " * 39000 + "3\n")[0]), 39001)
        self.assert_bad(90001, "0\n" * 90000 + "00\n")
        self.assert_bad(1, "9" * 150000 + "\n")
        self.assert_bad(1, "\n" * 150000)
