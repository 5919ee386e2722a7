"""Promise [3]: shares, how they are reckoned with, written and read."""

import itertools
import random
import unittest
from fractions import Fraction

from nevernought.errors import BadShare, ByNought
from nevernought.shares import less, over, plus, read_share, share, share_text, times

GREAT = 10 ** 40 - 1


def pair(worth):
    return (worth.numerator, worth.denominator)


def some_shares(seed, many, most):
    chance = random.Random(seed)
    told = [Fraction(0), Fraction(1), Fraction(-1)]
    for _ in range(many):
        told.append(Fraction(chance.randint(-most, most), chance.randint(1, most)))
    return told


class MakingShares(unittest.TestCase):
    def check(self, top, bottom):
        told = share(top, bottom)
        self.assertEqual(told, pair(Fraction(top, bottom)))
        self.assertIs(type(told), tuple)
        self.assertEqual([type(number) for number in told], [int, int])

    def test_all_small_ones(self):
        for top, bottom in itertools.product(range(-13, 14), range(-13, 14)):
            if bottom != 0:
                self.check(top, bottom)

    def test_great_ones(self):
        for top, bottom in [(GREAT, 1), (-GREAT, 1), (1, GREAT), (1, -GREAT), (GREAT, GREAT), (GREAT, -GREAT),
                            (GREAT - 9, GREAT), (6 * 10 ** 39, 9 * 10 ** 39), (-(2 ** 132), 6 ** 50)]:
            self.check(top, bottom)

    def test_lowest_terms(self):
        self.assertEqual(share(6, 4), (3, 2))
        self.assertEqual(share(-6, 4), (-3, 2))
        self.assertEqual(share(12, 4), (3, 1))
        self.assertEqual(share(5, 7), (5, 7))

    def test_bottom_below_nought(self):
        self.assertEqual(share(6, -4), (-3, 2))
        self.assertEqual(share(-6, -4), (3, 2))
        self.assertEqual(share(1, -1), (-1, 1))

    def test_nought(self):
        for bottom in (1, -1, 7, -7, GREAT, -GREAT):
            self.assertEqual(share(0, bottom), (0, 1))

    def test_bottom_left_out(self):
        for top in (0, 5, -5, GREAT):
            self.assertEqual(share(top), (top, 1))

    def test_by_nought(self):
        for top in (0, 1, -1, GREAT):
            with self.assertRaises(ByNought):
                share(top, 0)


class ReckoningWithShares(unittest.TestCase):
    def check_pairs(self, worths):
        for a, b in itertools.product(worths, repeat=2):
            one, other = pair(a), pair(b)
            self.assertEqual(plus(one, other), pair(a + b))
            self.assertEqual(less(one, other), pair(a - b))
            self.assertEqual(times(one, other), pair(a * b))
            if b:
                self.assertEqual(over(one, other), pair(a / b))

    def test_small_ones(self):
        self.check_pairs([Fraction(top, bottom) for top in range(-4, 5) for bottom in range(1, 5)])

    def test_ones_of_twelve_figures(self):
        self.check_pairs(some_shares(3, 25, 10 ** 12 - 1))

    def test_some_by_hand(self):
        self.assertEqual(plus((1, 6), (1, 3)), (1, 2))
        self.assertEqual(less((1, 2), (1, 2)), (0, 1))
        self.assertEqual(less((1, 3), (1, 2)), (-1, 6))
        self.assertEqual(times((2, 3), (-3, 4)), (-1, 2))
        self.assertEqual(times((0, 1), (-3, 4)), (0, 1))
        self.assertEqual(over((1, 2), (-3, 4)), (-2, 3))
        self.assertEqual(over((0, 1), (-3, 4)), (0, 1))

    def test_over_nought(self):
        for one in [(0, 1), (1, 1), (-3, 4)]:
            with self.assertRaises(ByNought):
                over(one, (0, 1))


class WritingShares(unittest.TestCase):
    def test_written(self):
        for one, text in [((0, 1), "0"), ((7, 1), "7"), ((-7, 1), "-7"), ((1, 2), "1/2"), ((-1, 2), "-1/2"),
                          ((100, 1), "100"), ((10, 30001), "10/30001"),
                          ((999999999999, 999999999998), "999999999999/999999999998")]:
            self.assertEqual(share_text(one), text)
            self.assertEqual(read_share(text), one)

    def test_there_and_back(self):
        for worth in some_shares(5, 200, 10 ** 12 - 1) + some_shares(6, 200, 20):
            one = pair(worth)
            self.assertEqual(share_text(one), str(worth))
            told = read_share(share_text(one))
            self.assertEqual(told, one)
            self.assertIs(type(told), tuple)

    def test_written_however_great(self):
        for figures in (59, 60, 61, 120, 121, 4000):
            for number in (10 ** figures, 10 ** figures - 1, 10 ** figures + 1, 7 * 10 ** figures + 10 ** 30):
                self.assertEqual(share_text((number, 1)), str(number))
                self.assertEqual(share_text((-1, number)), "-1/" + str(number))

    def test_written_beyond_what_python_writes_at_once(self):
        one = share(10)
        for _ in range(13):
            one = times(one, one)
        self.assertEqual(share_text(one), "1" + "0" * 8192)
        self.assertEqual(share_text(over((-3, 1), one)), "-3/1" + "0" * 8192)


class ReadingShares(unittest.TestCase):
    def check_refused(self, text):
        with self.subTest(text):
            self.assertRaises(BadShare, read_share, text)

    def test_twelve_figures(self):
        most = "9" * 12
        self.assertEqual(read_share(most), (10 ** 12 - 1, 1))
        self.assertEqual(read_share("-" + most), (1 - 10 ** 12, 1))
        self.assertEqual(read_share("1/" + most), (1, 10 ** 12 - 1))
        self.assertEqual(read_share("-" + "1" * 12 + "/1" + "0" * 11), (-111111111111, 10 ** 11))

    def test_thirteen_figures(self):
        for text in ("1" + "0" * 12, "-1" + "0" * 12, "1/1" + "0" * 12, "1" + "0" * 12 + "/7", "9" * 3999,
                     "1/" + "9" * 3998, "9" * 5000):
            self.check_refused(text)

    def test_nothing(self):
        for text in ("", "-", "/", "-/", "/2", "-/2", "1/", "-1/"):
            self.check_refused(text)

    def test_needless_noughts(self):
        for text in ("00", "01", "-01", "1/02", "01/2", "-01/2", "007"):
            self.check_refused(text)

    def test_not_in_lowest_terms(self):
        for text in ("2/4", "-2/4", "6/3", "0/2", "100/10", "999999999999/999999999999"):
            self.check_refused(text)

    def test_bottoms_of_one_and_nought(self):
        for text in ("5/1", "-5/1", "0/1", "1/0", "0/0", "-1/0", "1/00"):
            self.check_refused(text)

    def test_minus_of_nought(self):
        for text in ("-0", "-0/1", "-0/5", "-00"):
            self.check_refused(text)

    def test_blanks(self):
        for text in (" ", "\n", " 1", "1 ", "- 1", "1 /2", "1/ 2", "1 2", "1\n", "\n1", "1/2\n"):
            self.check_refused(text)

    def test_signs_without_a_place(self):
        for text in ("+1", "--1", "1-", "1/-2", "-1/-2", "1/+2", "1/2/3", "1//2", "1.5", "1e3", "1_0", "x", "1x",
                     "0x1", "(1)", "1,000", "~1", "1*2"):
            self.check_refused(text)

    def test_every_short_text(self):
        written = {share_text(share(top, bottom)) for top in range(-999, 1000) for bottom in range(1, 100)}
        for long in range(4):
            for signs in itertools.product("-/012 +", repeat=long):
                text = "".join(signs)
                if text in written:
                    self.assertEqual(read_share(text), pair(Fraction(text)))
                else:
                    self.check_refused(text)


if __name__ == "__main__":
    unittest.main()
