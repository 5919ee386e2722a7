"""Promise [10]: lesser rooms and ranks of webs."""

import random
import unittest

from helping import (PRIME, Residues, fractions, plain_is_room, plain_laid, plain_made, plain_rank, some_share, whole)
from nevernought.errors import BadWeb
from nevernought.rooms import is_room, lesser_room, makes, web_rank
from nevernought.tables import unit
from nevernought.tongue import read_term
from nevernought.webs import laid, web

LETTERS = ["a", "b", "c", "x", "yz", "zzzzzz"]
# At tables of size 1 the rank is 2, at greater ones it is full.
SKEW = {"": whole([[0] * 3] * 3), "x": whole([[0, 1, 0], [-1, 0, 0], [0, 0, 0]]),
        "y": whole([[0, 0, 1], [0, 0, 0], [-1, 0, 0]]), "z": whole([[0, 0, 0], [0, 0, 1], [0, -1, 0]])}


def thrown_rank(chance, squares):
    """The rank at tables that were thrown, of a size that is great enough for any web of this size, by that size."""
    many = len(squares[""])
    size = max(many - 1, 1) if len(squares) > 1 else 1
    rows = [[0] * (many * size) for _ in range(many * size)]
    for letter, square in squares.items():
        table = [[chance.randrange(PRIME) if letter else int(a == b) for b in range(size)] for a in range(size)]
        for i in range(many):
            for j in range(many):
                by = Residues.of(square[i][j])
                for a in range(size):
                    for b in range(size):
                        rows[i * size + a][j * size + b] = (rows[i * size + a][j * size + b] + by * table[a][b]) % PRIME
    told = plain_rank(rows, Residues)
    assert told % size == 0
    return told // size


def some_square(chance, many, share):
    return [[share() if chance.random() < 0.5 else (0, 1) for _ in range(many)] for _ in range(many)]


def some_web(chance, many, count, share):
    return {letter: some_square(chance, many, share) for letter in ["", *LETTERS[:count]]}


def bent_product(left, square, right):
    """The square between two tables of fractions, as shares."""
    rows = [[sum(left[i][k] * square[k][m] * right[m][j] for k in range(len(left)) for m in range(len(left)))
             for j in range(len(left))] for i in range(len(left))]
    return [[(one.numerator, one.denominator) for one in row] for row in rows]


def lesser_web(chance, many, count, wide, high):
    """A web that brings `wide` rows to all but `high` of so many columns, seen through two thrown tables."""
    while True:
        left, right = ([[chance.randint(-1, 2) for _ in range(many)] for _ in range(many)] for _ in range(2))
        left, right = fractions(whole(left)), fractions(whole(right))
        if plain_rank(left) == plain_rank(right) == many:
            break
    told = {}
    for letter in ["", *LETTERS[:count]]:
        square = fractions(some_square(chance, many, lambda: (chance.randint(-2, 2), 1)))
        square = [[0 * one if i < high and j < wide else one for j, one in enumerate(row)] for i, row in enumerate(square)]
        told[letter] = bent_product(left, square, right)
    return told


class Makes(unittest.TestCase):
    def test_by_hand(self):
        some = {"": whole([[1, 0], [0, 0]]), "x": whole([[0, 0], [1, 0]])}
        self.assertEqual(makes(some, []), 0)
        self.assertEqual(makes(some, whole([[0, 1]])), 0)
        self.assertEqual(makes(some, whole([[1, 0]])), 2)
        self.assertEqual(makes(some, whole([[1, 0], [0, 1]])), 2)
        self.assertEqual(makes(some, whole([[0, 0]])), 0)
        self.assertEqual(makes({"": whole([[1, 2], [2, 4]])}, whole([[1, 0], [0, 1], [5, 7]])), 1)

    def test_the_row_stands_as_a_column(self):
        some = {"": whole([[0, 1], [0, 0]])}
        self.assertEqual(makes(some, whole([[1, 0]])), 0)
        self.assertEqual(makes(some, whole([[0, 1]])), 1)
        self.assertTrue(is_room(some, whole([[1, 0]])))
        self.assertFalse(is_room(some, whole([[0, 1]])))

    def test_thrown(self):
        chance = random.Random(10)
        for _ in range(80):
            many = chance.randint(1, 6)
            some = some_web(chance, many, chance.randint(0, 6), lambda: some_share(chance, chance.choice([1, 1, 12])))
            rows = [[some_share(chance) for _ in range(many)] for _ in range(chance.randint(1, 7))]
            self.assertEqual(makes(some, rows), plain_rank(plain_made(some, rows)))

    def test_dependent_rows_make_no_more(self):
        chance = random.Random(11)
        some = some_web(chance, 5, 1, lambda: (chance.randint(-1, 1), 1))
        row, other = whole([[1, 2, 0, -1, 3], [0, 1, 1, 1, 1]])
        both = [(a[0] * 7 - b[0] * 3, 1) for a, b in zip(row, other)]
        self.assertEqual(makes(some, [row, other, both]), makes(some, [row, other]))


class Rooms(unittest.TestCase):
    def test_by_hand(self):
        some = web(read_term("x - x*1"))
        self.assertTrue(is_room(some, whole([[1, 1]])) or is_room(some, lesser_room(some)))
        flat = {"": whole([[1, 1], [1, 1]]), "x": whole([[2, 2], [3, 3]])}
        self.assertTrue(is_room(flat, whole([[1, -1]])))
        self.assertTrue(is_room(flat, whole([[-5, 5]])))
        self.assertTrue(is_room(flat, [[(1, 3), (-1, 3)]]))
        self.assertFalse(is_room(flat, whole([[1, 1]])))
        self.assertFalse(is_room(flat, whole([[1, 0], [0, 1]])))
        self.assertTrue(is_room({"": whole([[1, 1], [1, 1]])}, whole([[1, 0], [0, 1]])))

    def test_none_dependent_short_and_long_rows(self):
        flat = {"": whole([[1, 1], [1, 1]])}
        for rows in ([], [[]], whole([[0, 0]]), whole([[1, -1], [2, -2]]), whole([[1, -1], [1, -1]]), whole([[0]]),
                     whole([[1]]), whole([[1, -1, 0]]), whole([[1, -1], [0]]), whole([[1, 0], [0, 1], [1, 1]]),
                     whole([[1, -1], [0, 0]]), [[], []]):
            self.assertIs(is_room(flat, rows), False, rows)
        self.assertIs(is_room(flat, whole([[1, -1]])), True)

    def test_tuples_in_place_of_lists(self):
        flat = {"": (((1, 1), (1, 1)), ((1, 1), (1, 1))), "x": [((2, 1), (2, 1)), [(3, 1), (3, 1)]]}
        self.assertTrue(is_room(flat, (((1, 1), (-1, 1)),)))
        self.assertEqual(makes(flat, (((1, 1), (0, 1)),)), 2)
        self.assertTrue(is_room(flat, lesser_room(flat)))
        self.assertEqual(web_rank(flat)[0], 1)

    def test_thrown_rows(self):
        chance = random.Random(12)
        seen = set()
        for _ in range(300):
            many = chance.randint(1, 4)
            some = lesser_web(chance, many, chance.randint(0, 2), chance.randint(0, many), chance.randint(0, many))
            rows = whole([[chance.randint(-1, 1) for _ in range(many)] for _ in range(chance.randint(1, many))])
            right = plain_is_room(some, rows)
            self.assertIs(is_room(some, rows), right)
            seen.add(right)
        self.assertEqual(seen, {True, False})

    def test_great_shares(self):
        chance = random.Random(13)
        row = [some_share(chance, 12) for _ in range(6)]
        some = {}
        for letter in ["", *LETTERS]:
            square = [[some_share(chance, 12) for _ in range(5)] for _ in range(6)]
            some[letter] = [line + [self.last(line, row)] for line in square]
        self.assertTrue(is_room(some, [row]))
        self.assertTrue(plain_is_room(some, lesser_room(some)))
        some["b"][3][5] = (some["b"][3][5][0] + some["b"][3][5][1], some["b"][3][5][1])
        self.assertFalse(is_room(some, [row]))
        self.assertIsNone(lesser_room(some))

    def last(self, line, row):
        """What must stand behind the line so that its product with the row is nought."""
        total = sum(a * b for a, b in zip(*fractions([line, row[:5]])))
        told = -total / fractions([row])[0][5]
        return (told.numerator, told.denominator)


class Ranks(unittest.TestCase):
    def check(self, chance, squares):
        told = web_rank(squares)
        self.assertIsInstance(told, tuple)
        rank, rows, tables = told
        many = len(squares[""])
        self.assertEqual(rank, thrown_rank(chance, squares))
        found = sorted(letter for letter in squares if letter)
        self.assertEqual(sorted(tables), found)
        size = len(tables[found[0]]) if found else 1
        for letter in found:
            self.assertEqual([len(row) for row in tables[letter]], [size] * size)
        self.assertEqual(plain_rank(plain_laid(squares, tables, size)), rank * size)
        self.assertEqual(laid(squares, tables), [[(one.numerator, one.denominator) for one in row]
                                                 for row in plain_laid(squares, tables, size)])
        if rank == many:
            self.assertEqual(rows, [])
            self.assertIsNone(lesser_room(squares))
        else:
            self.assertTrue(plain_is_room(squares, rows))
            self.assertEqual(plain_rank(plain_made(squares, rows)), len(rows) - (many - rank))
            self.assertEqual(makes(squares, rows), len(rows) - (many - rank))
            self.assertTrue(is_room(squares, rows))
            room = lesser_room(squares)
            self.assertTrue(plain_is_room(squares, room))
        return told

    def test_by_hand(self):
        chance = random.Random(14)
        for rank, squares in ((0, {"": whole([[0]])}), (1, {"": whole([[5]])}), (0, {"": whole([[0] * 4] * 4)}),
                              (1, {"": whole([[0]]), "x": whole([[1]])}), (6, {"": unit(6)}),
                              (0, {"": whole([[0]]), "x": whole([[0]])}), (1, {"": whole([[1]]), "x": whole([[0]])}),
                              (2, {"": whole([[1, 0], [0, 0]]), "x": whole([[0, 0], [0, 1]])}),
                              (1, {"": whole([[1, 0], [1, 0]]), "x": whole([[2, 0], [0, 0]])}),
                              (1, {"": whole([[1, 1], [0, 0]]), "x": whole([[2, 0], [0, 0]])})):
            self.assertEqual(self.check(chance, squares)[0], rank, squares)

    def test_greater_tables_alone(self):
        chance = random.Random(15)
        rank, rows, tables = self.check(chance, SKEW)
        self.assertEqual((rank, rows), (3, []))
        self.assertGreater(len(tables["x"]), 1)
        for _ in range(20):
            ones = {letter: whole([[chance.randint(-9, 9)]]) for letter in "xyz"}
            self.assertLess(plain_rank(plain_laid(SKEW, ones, 1)), 3)
        twice = {letter: [row + [(0, 1)] * 3 for row in SKEW[letter]] + [[(0, 1)] * 3 + row for row in SKEW[letter]]
                 for letter in SKEW}
        self.assertEqual(self.check(chance, twice)[0], 6)
        commutator = web(read_term("x*y - y*x"))
        self.assertEqual(self.check(chance, commutator)[0], 3)
        beside = {letter: [row + [(0, 1)] for row in SKEW[letter]] + [[(0, 1)] * 4] for letter in SKEW}
        self.assertEqual(self.check(chance, beside)[0], 3)

    def test_a_letter_whose_square_is_nought(self):
        nought = whole([[0] * 3] * 3)
        told = self.check(random.Random(16), {**SKEW, "q": nought, "aa": nought})
        self.assertEqual(sorted(told[2]), ["aa", "q", "x", "y", "z"])
        told = self.check(random.Random(16), {"": nought, "q": nought})
        self.assertEqual((told[0], sorted(told[2])), (0, ["q"]))
        told = self.check(random.Random(16), {"": unit(3), "q": nought})
        self.assertEqual((told[0], sorted(told[2])), (3, ["q"]))

    def test_no_letter(self):
        self.assertEqual(web_rank({"": whole([[1, 2], [2, 4]])})[::2], (1, {}))
        self.assertEqual(web_rank({"": unit(4)}), (4, [], {}))

    def test_full_and_lesser_ranks(self):
        chance = random.Random(17)
        seen = set()
        for many in range(1, 7):
            for count in range(7):
                squares = some_web(chance, many, count, lambda: (chance.choice([-2, -1, 1, 3]), 1))
                seen.add((many, many - self.check(chance, squares)[0]))
                for _ in range(3):
                    wide, high = chance.randint(0, many), chance.randint(0, many)
                    squares = lesser_web(chance, many, count, wide, high)
                    rank = self.check(chance, squares)[0]
                    self.assertLessEqual(rank, 2 * many - wide - high)
                    seen.add((many, many - rank))
        for many in range(1, 7):
            self.assertGreater(len([lack for size, lack in seen if size == many]), 1)
            self.assertIn((many, 0), seen)

    def test_great_shares(self):
        chance = random.Random(18)
        for many in (2, 4, 6):
            squares = some_web(chance, many, 3, lambda: some_share(chance, 12))
            self.assertEqual(self.check(chance, squares)[0], thrown_rank(chance, squares))
            short = {letter: squares[letter][:-1] + [squares[letter][0]] for letter in squares}
            self.assertEqual(self.check(chance, short)[0], thrown_rank(chance, short))
            narrow = {letter: [row[:-1] + [self.mean(row[0], row[1])] for row in squares[letter]] for letter in squares}
            self.assertEqual(self.check(chance, narrow)[0], thrown_rank(chance, narrow))

    def mean(self, one, other):
        told = sum(fractions([[one, other]])[0]) / 2
        return (told.numerator, told.denominator)

    def test_the_prime_s_own_multiples(self):
        """Shares may go up in the primes that the program reckons with."""
        for exponent in (61, 89, 107, 127):
            prime = 2 ** exponent - 1
            some = {"": whole([[prime, 0], [0, 1]]), "x": whole([[0, 0], [prime, 0]])}
            self.assertEqual(web_rank(some)[0], 2)
            self.assertIsNone(lesser_room(some))
            some = {"": whole([[prime, 1], [0, 1]]), "x": whole([[0, 0], [0, 0]])}
            self.assertEqual(web_rank(some)[0], 2)
            some = {"": whole([[prime, 2 * prime], [1, 2]]), "x": whole([[1, 2], [prime, 2 * prime]])}
            self.assertEqual(web_rank(some)[0], 1)
            self.assertTrue(plain_is_room(some, lesser_room(some)))
            self.assertTrue(is_room(some, whole([[2, -1]])))
            self.assertFalse(is_room(some, whole([[2 + prime, -1]])))
            self.assertEqual(makes({"": whole([[prime, 0], [0, prime]])}, whole([[1, 0], [0, 1]])), 2)


class Refusals(unittest.TestCase):
    def test_bad_webs(self):
        two, three = unit(2), unit(3)
        for squares, letter in (({"": two, "x": three}, "x"), ({"x": two, "": three, "a": two}, "a"),
                                ({"": two, "c": three, "b": three, "a": two}, "b"), ({"": three, "z": two, "y": three}, "z"),
                                ({"": two, "a": two, "ab": unit(1)}, "ab")):
            for door in (lesser_room, web_rank, lambda some: makes(some, whole([[1, 1]])), lambda some: makes(some, []),
                         lambda some: is_room(some, whole([[1, 1]])), lambda some: is_room(some, [])):
                with self.assertRaises(BadWeb) as caught:
                    door(squares)
                self.assertEqual((caught.exception.word, caught.exception.letter), ("BadWeb", letter))


if __name__ == "__main__":
    unittest.main()
