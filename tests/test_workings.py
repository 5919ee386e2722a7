"""What the papers of [10] and [12] are found with: residues of primes, sweeps, counting, trials."""

import random
import unittest
from unittest import mock

from helping import fractions, plain_rank, some_share
from nevernought import counting, residues, shrinking, wholes
from nevernought.counting import independent, sparse_row
from nevernought.modsweep import Sweep, left_of
from nevernought.residues import EXPONENTS, bound_at, prime_at, share_of, spot_behind, undone
from nevernought.tables import product, turned_back
from nevernought.trials import BOUNDS, TRIES, trial_tables


def is_prime_of(exponent):
    """Whether 2 to the exponent-th less 1 is a prime, by Lucas and Lehmer."""
    prime, number = 2 ** exponent - 1, 4
    for _ in range(exponent - 2):
        number = (number * number - 2) % prime
    return number == 0


class Residues(unittest.TestCase):
    def test_primes(self):
        self.assertEqual(list(EXPONENTS), sorted(set(EXPONENTS)))
        for spot, exponent in enumerate(EXPONENTS):
            self.assertEqual(prime_at(spot), 2 ** exponent - 1)
            if exponent < 3300:
                self.assertTrue(is_prime_of(exponent), exponent)

    def test_spots(self):
        for spot, exponent in enumerate(EXPONENTS):
            behind = spot_behind(spot)
            if behind is None:
                self.assertLess(EXPONENTS[-1], 2 * exponent)
            else:
                self.assertGreaterEqual(EXPONENTS[behind], 2 * exponent)
                self.assertLess(EXPONENTS[behind - 1], 2 * exponent)

    def test_undone(self):
        chance = random.Random(30)
        for spot in range(5):
            prime = prime_at(spot)
            for number in (1, 2, prime - 1, prime - 2, *[chance.randrange(1, prime) for _ in range(20)]):
                self.assertEqual(undone(number, prime) * number % prime, 1)
                self.assertTrue(0 < undone(number, prime) < prime)

    def test_shares_are_found_again(self):
        chance = random.Random(31)
        for spot in range(5):
            prime, bound = prime_at(spot), bound_at(spot)
            for share in ((0, 1), (1, 1), (-1, 1), (1, 2), (-7, 3), (bound - 1, 1), (1 - bound, 1), (1, bound - 1),
                          *[some_share(chance, 6) for _ in range(20)]):
                residue = share[0] * pow(share[1], -1, prime) % prime
                self.assertEqual(share_of(residue, prime, bound), share)

    def test_others_are_hardly_taken_for_shares(self):
        chance = random.Random(32)
        found = [share_of(chance.randrange(prime_at(0)), prime_at(0), bound_at(0)) for _ in range(2000)]
        self.assertLess(len([one for one in found if one is not None]), 20)


class Sweeps(unittest.TestCase):
    def test_answers_and_kernel(self):
        chance = random.Random(33)
        prime = prime_at(0)
        for _ in range(40):
            high, width, rank = chance.randint(1, 8), chance.randint(1, 8), chance.randint(1, 4)
            tall = [[chance.randint(-2, 2) for _ in range(rank)] for _ in range(high)]
            wide = [[chance.randint(-2, 2) for _ in range(width)] for _ in range(rank)]
            rows = [[sum(a * b for a, b in zip(row, column)) for column in zip(*wide)] for row in tall]
            sweep = Sweep(prime)
            for row in rows:
                sweep.take(left_of(dict(enumerate(row)), prime))
            self.assertEqual(len(sweep.leads), plain_rank(fractions([[(n, 1) for n in row] for row in rows])))
            kernel = sweep.kernel(width)
            self.assertEqual(len(kernel), width - len(sweep.leads))
            for answer in kernel:
                self.assertEqual([sum(row[j] * answer.get(j, 0) for j in range(width)) % prime for row in rows], [0] * high)
            one = [chance.randrange(prime) for _ in range(width)]
            wanted = [sum(a * b for a, b in zip(row, one)) % prime for row in rows]
            answer = sweep.answer({at: number for at, number in enumerate(wanted) if number})
            self.assertEqual([sum(row[j] * answer.get(j, 0) for j in range(width)) % prime for row in rows], wanted)

    def test_no_answer(self):
        sweep = Sweep(prime_at(0))
        for row in ({0: 1, 1: 2}, {0: 2, 1: 4}, {}):
            sweep.take(row)
        self.assertIsNone(sweep.answer({0: 1, 1: 1}))
        self.assertIsNone(sweep.answer({2: 1}))
        self.assertIsNotNone(sweep.answer({0: 1, 1: 2}))


class Counting(unittest.TestCase):
    def rows(self, chance, figures):
        width, rank, high = chance.randint(1, 7), chance.randint(1, 5), chance.randint(1, 9)
        wide = fractions([[some_share(chance, figures) for _ in range(width)] for _ in range(rank)])
        tall = fractions([[some_share(chance, figures) for _ in range(rank)] for _ in range(high)])
        return [[sum(a * b for a, b in zip(row, column)) for column in zip(*wide)] for row in tall]

    def count(self, rows):
        return independent([sparse_row([(one.numerator, one.denominator) for one in row]) for row in rows])

    def test_thrown(self):
        chance = random.Random(34)
        for figures in (1, 1, 3, 12):
            for _ in range(25):
                rows = self.rows(chance, figures)
                self.assertEqual(self.count(rows), plain_rank(rows))

    def test_none(self):
        self.assertEqual(independent([]), 0)
        self.assertEqual(independent([{}, {}]), 0)
        self.assertEqual(independent([{}, {5: 1}]), 1)

    def test_multiples_of_the_primes(self):
        for spot in range(4):
            prime = prime_at(spot)
            self.assertEqual(independent([{0: prime}, {1: prime}]), 2)
            self.assertEqual(independent([{0: 1, 1: 1}, {0: 1, 1: 1 + prime}]), 2)
            self.assertEqual(independent([{0: prime, 1: 1}, {0: 2 * prime, 1: 2}]), 1)

    def test_enough(self):
        rows = [{0: 1}, {1: 1}, {2: 1}, {0: 1, 1: 1}]
        self.assertEqual(independent(rows), 3)
        self.assertGreaterEqual(independent(rows, 2), 2)
        self.assertEqual(independent(rows, 4), 3)

    def test_beyond_all_primes(self):
        chance = random.Random(35)
        with mock.patch.object(counting, "spot_behind", lambda spot: None):
            for _ in range(20):
                rows = self.rows(chance, 12)
                self.assertEqual(self.count(rows), plain_rank(rows))


class Trials(unittest.TestCase):
    def test_tables(self):
        for size in range(1, 6):
            for attempt in range(TRIES):
                told = trial_tables(["x", "y"], size, attempt)
                self.assertEqual(told, trial_tables(["x", "y"], size, attempt))
                self.assertEqual(list(told), ["x", "y"])
                for table in told.values():
                    self.assertEqual([len(row) for row in table], [size] * size)
                    self.assertTrue(all(abs(one[0]) <= BOUNDS[attempt] and one[1] == 1 for row in table for one in row))
                self.assertNotEqual(told["x"], told["y"])
        self.assertEqual(len(BOUNDS), TRIES)
        self.assertEqual(trial_tables([], 3, 0), {})

    def test_first_primes(self):
        self.assertLessEqual(shrinking.FIRST_PRIMES, len(residues.EXPONENTS))


class Wholes(unittest.TestCase):
    def test_there_and_back(self):
        chance = random.Random(36)
        for size in range(1, 5):
            table = [[some_share(chance, 3) for _ in range(size)] for _ in range(size)]
            other = [[some_share(chance, 3) for _ in range(size)] for _ in range(size)]
            whole = wholes.whole_of(table)
            self.assertGreater(whole[1], 0)
            self.assertEqual(wholes.table_of(whole), table)
            both = wholes.whole_product(whole, wholes.whole_of(other))
            self.assertEqual(wholes.table_of(both), product(table, other))
            self.assertEqual(wholes.table_of(wholes.whole_back(whole)), turned_back(table))
            self.assertGreater(wholes.whole_back(whole)[1], 0)

    def test_lowered(self):
        self.assertEqual(wholes.lowered([[2, 4], [6, 8]], 2), ([[1, 2], [3, 4]], 1))
        self.assertEqual(wholes.lowered([[2, 4], [6, 8]], -4), ([[-1, -2], [-3, -4]], 2))
        self.assertEqual(wholes.lowered([[0, 0], [0, 0]], -7), ([[0, 0], [0, 0]], 1))
        self.assertEqual(wholes.lowered([[3, 4], [6, 8]], 5), ([[3, 4], [6, 8]], 5))
        self.assertEqual(wholes.lowered([[3, 4], [6, 8]], -1), ([[-3, -4], [-6, -8]], 1))


if __name__ == "__main__":
    unittest.main()
