"""Promise [4]: tables and what is reckoned with them."""

import random
import unittest
from fractions import Fraction

from nevernought import tables
from nevernought.errors import BadTable, Unfit
from nevernought.tables import added, corners, need_table, product, rank, scaled, taken, turned_back, unit

NOUGHT = (0, 1)
ONE = (1, 1)


def pairs(rows):
    return [[(worth.numerator, worth.denominator) for worth in row] for row in rows]


def fractions(rows):
    return [[Fraction(*one) for one in row] for row in rows]


def whole(rows):
    """A table of shares from rows of whole numbers."""
    return [[(number, 1) for number in row] for row in rows]


def some_rows(chance, size, most):
    return [[Fraction(chance.randint(-most, most), chance.randint(1, most)) for _ in range(size)]
            for _ in range(size)]


def of_rank(chance, size, many):
    """Rows of fractions of which `many` are independent: a product of a tall and a wide part."""
    tall = [[Fraction(int(row == column)) if row < many else Fraction(chance.randint(-3, 3), 2)
             for column in range(many)] for row in range(size)]
    wide = [[Fraction(int(row == column)) if column < many else Fraction(chance.randint(-3, 3), 5)
             for column in range(size)] for row in range(many)]
    rows = [[sum(tall[i][k] * wide[k][j] for k in range(many)) + Fraction(0) for j in range(size)]
            for i in range(size)]
    chance.shuffle(rows)
    return rows


def plain_product(one, other):
    size = len(one)
    return [[sum((one[i][k] * other[k][j] for k in range(size)), Fraction(0)) for j in range(size)]
            for i in range(size)]


class Units(unittest.TestCase):
    def test_every_size(self):
        for size in range(1, 41):
            told = unit(size)
            self.assertEqual(told, whole([[int(i == j) for j in range(size)] for i in range(size)]))
            self.assertIsNone(need_table(told))
            self.assertEqual(rank(told), size)

    def test_constant(self):
        self.assertEqual(tables.MOST_SIZE, 4)


class NeedTable(unittest.TestCase):
    def check_refused(self, rows, at):
        with self.subTest(rows=rows):
            with self.assertRaises(BadTable) as caught:
                need_table(rows)
            self.assertEqual(caught.exception.at, at)

    def test_tables(self):
        for size in range(1, 9):
            self.assertIsNone(need_table([[NOUGHT] * size for _ in range(size)]))
            self.assertIsNone(need_table(tuple((ONE,) * size for _ in range(size))))

    def test_no_row(self):
        self.check_refused([], 0)
        self.check_refused((), 0)

    def test_an_empty_row(self):
        self.check_refused([[]], 0)
        self.check_refused([[ONE, ONE], []], 1)

    def test_first_row_of_another_length(self):
        self.check_refused([[ONE, ONE]], 0)
        self.check_refused([[ONE], [ONE]], 0)
        self.check_refused([[ONE, ONE], [ONE]], 1)
        self.check_refused([[ONE, ONE], [ONE, ONE, ONE]], 1)
        self.check_refused([[ONE] * 3, [ONE] * 3, [ONE] * 2], 2)
        self.check_refused([[ONE] * 3, [ONE] * 2, [ONE] * 4], 1)
        self.check_refused([[ONE] * 4] * 3, 0)
        self.check_refused(((ONE, ONE), (ONE,)), 1)


class Reckoning(unittest.TestCase):
    def test_against_fractions(self):
        chance = random.Random(11)
        for size in (1, 2, 3, 4):
            for most in (3, 10 ** 12 - 1, 10 ** 40 - 1):
                for _ in range(8):
                    one, other = some_rows(chance, size, most), some_rows(chance, size, most)
                    by = some_rows(chance, 1, most)[0][0]
                    a, b = pairs(one), pairs(other)
                    self.assertEqual(fractions(added(a, b)),
                                     [[x + y for x, y in zip(*both)] for both in zip(one, other)])
                    self.assertEqual(fractions(taken(a, b)),
                                     [[x - y for x, y in zip(*both)] for both in zip(one, other)])
                    self.assertEqual(product(a, b), pairs(plain_product(one, other)))
                    self.assertEqual(scaled(a, pairs([[by]])[0][0]), pairs([[x * by for x in row] for row in one]))

    def test_shares_come_in_lowest_terms(self):
        self.assertEqual(added([[(1, 6)]], [[(1, 3)]]), [[(1, 2)]])
        self.assertEqual(taken([[(1, 2)]], [[(1, 2)]]), [[NOUGHT]])
        self.assertEqual(product([[(2, 3)]], [[(3, 4)]]), [[(1, 2)]])
        self.assertEqual(scaled([[(2, 3)]], (-3, 4)), [[(-1, 2)]])

    def test_order_of_products(self):
        one, other = whole([[0, 1], [0, 0]]), whole([[0, 0], [1, 0]])
        self.assertEqual(product(one, other), whole([[1, 0], [0, 0]]))
        self.assertEqual(product(other, one), whole([[0, 0], [0, 1]]))

    def test_taken_has_its_order(self):
        self.assertEqual(taken(whole([[1]]), whole([[3]])), whole([[-2]]))

    def test_scaled_by_nought_and_below(self):
        one = whole([[1, 2], [3, 4]])
        self.assertEqual(scaled(one, NOUGHT), whole([[0, 0], [0, 0]]))
        self.assertEqual(scaled(one, (-1, 2)), [[(-1, 2), (-1, 1)], [(-3, 2), (-2, 1)]])

    def test_unit_changes_nothing(self):
        one = pairs(some_rows(random.Random(2), 4, 99))
        self.assertEqual(product(one, unit(4)), one)
        self.assertEqual(product(unit(4), one), one)

    def test_unlike_sizes(self):
        for work in (added, taken, product):
            for size in range(1, 5):
                for other in range(1, 5):
                    if size != other:
                        self.assertRaises(Unfit, work, unit(size), unit(other))


class TurnedBack(unittest.TestCase):
    def check(self, one):
        told = turned_back(one)
        self.assertIsNone(need_table(told))
        self.assertEqual(product(one, told), unit(len(one)))
        self.assertEqual(product(told, one), unit(len(one)))
        self.assertEqual(rank(one), len(one))

    def test_by_hand(self):
        self.assertEqual(turned_back([[(-2, 3)]]), [[(-3, 2)]])
        self.assertEqual(turned_back(whole([[1, 2], [3, 4]])), [[(-2, 1), (1, 1)], [(3, 2), (-1, 2)]])
        self.assertEqual(turned_back(whole([[0, 2], [1, 0]])), [[NOUGHT, ONE], [(1, 2), NOUGHT]])

    def test_many(self):
        chance = random.Random(17)
        for size in range(1, 5):
            for most in (2, 9, 10 ** 12 - 1, 10 ** 40 - 1):
                for _ in range(12):
                    one = pairs(some_rows(chance, size, most))
                    if rank(one) == size:
                        self.check(one)
                    else:
                        self.assertIsNone(turned_back(one))

    def test_rows_in_all_orders(self):
        self.check(whole([[0, 0, 0, 1], [0, 0, -2, 0], [0, 3, 0, 0], [5, 0, 0, 0]]))
        self.check(whole([[0, 1, 0], [0, 0, 1], [1, 0, 0]]))
        self.check(whole([[0, 1, 1, 1], [1, 0, 1, 1], [1, 1, 0, 1], [1, 1, 1, 0]]))

    def test_there_is_none(self):
        for rows in ([[0]], [[1, 2], [2, 4]], [[0, 1], [0, 5]], [[0, 0], [3, 5]],
                     [[1, 2, 3], [4, 5, 6], [7, 8, 9]], [[0] * 4 for _ in range(4)]):
            self.assertIsNone(turned_back(whole(rows)))

    def test_units_of_every_size(self):
        for size in range(1, 41):
            self.assertEqual(turned_back(unit(size)), unit(size))

    def test_greater_than_is_handed_in_at_first(self):
        one = pairs(some_rows(random.Random(23), 4, 10 ** 12 - 1))
        told = corners(corners(one, turned_back(one)), corners(product(one, one), unit(5)))
        self.check(told)


class Ranks(unittest.TestCase):
    def test_every_rank(self):
        chance = random.Random(29)
        for size in range(1, 6):
            for many in range(size + 1):
                for _ in range(10):
                    one = pairs(of_rank(chance, size, many))
                    told = rank(one)
                    self.assertEqual(told, many)
                    self.assertIs(type(told), int)
                    self.assertEqual(turned_back(one) is None, many < size)

    def test_nought_throughout(self):
        for size in range(1, 5):
            self.assertEqual(rank([[NOUGHT] * size for _ in range(size)]), 0)

    def test_by_hand(self):
        self.assertEqual(rank(whole([[0, 1], [0, 0]])), 1)
        self.assertEqual(rank(whole([[0, 0, 1], [0, 0, 2], [0, 1, 0]])), 2)
        self.assertEqual(rank(whole([[0, 1, 2, 3], [0, 2, 4, 7], [0, 0, 0, 1], [0, 1, 2, 0]])), 2)
        self.assertEqual(rank([[(1, 2), (1, 3)], [(3, 2), (1, 1)]]), 1)

    def test_nearly_independent_great_shares(self):
        great = 10 ** 40 - 1
        self.assertEqual(rank(whole([[great, great - 1], [great - 1, great - 2]])), 2)
        self.assertEqual(rank([[(great, 7), (great, 1)], [(1, 7), (1, 1)]]), 1)


class Corners(unittest.TestCase):
    def test_by_hand(self):
        one, other = [[(1, 2)]], whole([[1, 2], [3, 4]])
        self.assertEqual(corners(one, other), [[(1, 2), NOUGHT, NOUGHT], [NOUGHT, ONE, (2, 1)], [NOUGHT, (3, 1), (4, 1)]])
        self.assertEqual(corners(other, one), [[ONE, (2, 1), NOUGHT], [(3, 1), (4, 1), NOUGHT], [NOUGHT, NOUGHT, (1, 2)]])

    def test_every_two_sizes(self):
        chance = random.Random(31)
        for size in range(1, 5):
            for beside in range(1, 5):
                one, other = pairs(of_rank(chance, size, size // 2)), pairs(some_rows(chance, beside, 10 ** 12 - 1))
                told = corners(one, other)
                self.assertIsNone(need_table(told))
                for i in range(size + beside):
                    for j in range(size + beside):
                        if i < size and j < size:
                            self.assertEqual(told[i][j], one[i][j])
                        elif i >= size and j >= size:
                            self.assertEqual(told[i][j], other[i - size][j - size])
                        else:
                            self.assertEqual(told[i][j], NOUGHT)
                self.assertEqual(rank(told), rank(one) + rank(other))

    def test_units(self):
        self.assertEqual(corners(unit(3), unit(4)), unit(7))


if __name__ == "__main__":
    unittest.main()
