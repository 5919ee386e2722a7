"""Promises [9] and [11]: webs of reckonings, square by square, and webs laid at tables."""

import random
import unittest
from fractions import Fraction

from helping import (S, W, X, Y, Z, fractions, less, plain_back, plain_laid, plain_product, plain_worth, plus,
                     some_share, some_table, some_term, times, undo, undone, whole)
from nevernought.errors import BadTables, BadTerm, NoLetter
from nevernought.tables import rank, turned_back, unit
from nevernought.terms import letters
from nevernought.tongue import read_term
from nevernought.webs import laid, web
from nevernought.worths import worth


def squares(**rows):
    """A web of rows of whole numbers, `fixed` for the fixed square."""
    return {"" if letter == "fixed" else letter: whole(rows[letter]) for letter in rows}


# Each text with its web.
WEBS = [
    ("3/2", {"": [[(3, 2)]]}),
    ("0", {"": [[(0, 1)]]}),
    ("x", squares(fixed=[[0]], x=[[1]])),
    ("x + y", squares(fixed=[[0]], x=[[1]], y=[[1]])),
    ("x - y", squares(fixed=[[0]], x=[[1]], y=[[-1]])),
    ("x - 2", squares(fixed=[[-2]], x=[[1]])),
    ("x + x + 1", squares(fixed=[[1]], x=[[2]])),
    ("x*y", squares(fixed=[[-1, 0], [0, 0]], x=[[0, 0], [1, 0]], y=[[0, 1], [0, 0]])),
    ("x*x", squares(fixed=[[-1, 0], [0, 0]], x=[[0, 1], [1, 0]])),
    ("(x + 2)*(y - 3)", squares(fixed=[[-1, -3], [2, 0]], x=[[0, 0], [1, 0]], y=[[0, 1], [0, 0]])),
    ("~x", squares(fixed=[[0, 1], [-1, 0]], x=[[1, 0], [0, 0]])),
    ("~~x", squares(fixed=[[0, 1, 0], [-1, 0, 1], [0, -1, 0]], x=[[1, 0, 0], [0, 0, 0], [0, 0, 0]])),
    ("~x + y", squares(fixed=[[0, 1], [-1, 0]], x=[[1, 0], [0, 0]], y=[[0, 0], [0, 1]])),
    ("~x + ~y", squares(fixed=[[0, 0, 1], [0, 0, 1], [-1, -1, 0]], x=[[1, 0, 0], [0, 0, 0], [0, 0, 0]],
                        y=[[0, 0, 0], [0, 1, 0], [0, 0, 0]])),
    ("~x - ~y", squares(fixed=[[0, 0, 1], [0, 0, 1], [-1, 1, 0]], x=[[1, 0, 0], [0, 0, 0], [0, 0, 0]],
                        y=[[0, 0, 0], [0, 1, 0], [0, 0, 0]])),
    ("x*y - y*x", squares(fixed=[[-1, 0, 0], [0, -1, 0], [0, 0, 0]], x=[[0, 0, 0], [0, 0, 1], [1, 0, 0]],
                          y=[[0, 0, 1], [0, 0, 0], [0, -1, 0]])),
    # Behind both inner parts the new row and column; A's column in it, B's row in it.
    ("~x*~y", squares(fixed=[[0, 0, 1, 0], [0, 0, 0, 1], [0, -1, -1, 0], [-1, 0, 0, 0]],
                      x=[[1, 0, 0, 0], [0] * 4, [0] * 4, [0] * 4], y=[[0] * 4, [0, 1, 0, 0], [0] * 4, [0] * 4])),
    ("(~x + 5)*(~y - 7)", squares(fixed=[[0, 0, 1, 0], [0, 0, 0, 1], [0, -1, -1, -7], [-1, 0, 5, 0]],
                                  x=[[1, 0, 0, 0], [0] * 4, [0] * 4, [0] * 4],
                                  y=[[0] * 4, [0, 1, 0, 0], [0] * 4, [0] * 4])),
    ("~(x*y + 1)", squares(fixed=[[-1, 0, 0], [0, 1, 1], [0, -1, 0]], x=[[0, 0, 0], [1, 0, 0], [0, 0, 0]],
                           y=[[0, 1, 0], [0, 0, 0], [0, 0, 0]])),
    ("~x*y*z", squares(fixed=[[0, 1, 0, 0], [0, -1, 0, 0], [0, 0, -1, 0], [-1, 0, 0, 0]],
                       x=[[1, 0, 0, 0], [0] * 4, [0] * 4, [0] * 4],
                       y=[[0] * 4, [0, 0, 1, 0], [0] * 4, [0] * 4], z=[[0] * 4, [0] * 4, [0, 0, 0, 1], [0] * 4])),
]


def plain_web(term):
    """The web by rows and columns of dicts, as [11] tells it: (inner size, whole rows)."""
    def empty(size):
        return [[{} for _ in range(size)] for _ in range(size)]

    def put(cell, other, by=1):
        for letter in other:
            cell[letter] = cell.get(letter, Fraction(0)) + by * other[letter]

    word = term[0]
    if word == "share":
        return 0, [[{"": Fraction(*term[1])}]]
    if word == "letter":
        return 0, [[{term[1]: Fraction(1)}]]
    a, one = plain_web(term[1])
    if word == "undo":
        rows = empty(a + 2)
        for i in range(a + 1):
            for j in range(a + 1):
                put(rows[i][j], one[i][j])
        put(rows[a][a + 1], {"": Fraction(1)})
        put(rows[a + 1][a], {"": Fraction(-1)})
        return a + 1, rows
    b, other = plain_web(term[2])
    many = a + b + (word == "times")
    rows = empty(many + 1)
    for i in range(a):
        for j in range(a):
            put(rows[i][j], one[i][j])
    for i in range(b):
        for j in range(b):
            put(rows[a + i][a + j], other[i][j])
    if word == "times":
        new = a + b
        put(rows[new][new], {"": Fraction(-1)})
        for j in range(b):
            put(rows[new][a + j], other[b][j])
            put(rows[a + j][many], other[j][b])
        for i in range(a):
            put(rows[i][new], one[i][a])
            put(rows[many][i], one[a][i])
        put(rows[many][new], one[a][a])
        put(rows[new][many], other[b][b])
        return many, rows
    sign = 1 if word == "plus" else -1
    for i in range(a):
        put(rows[i][many], one[i][a])
        put(rows[many][i], one[a][i])
    for j in range(b):
        put(rows[a + j][many], other[j][b])
        put(rows[many][a + j], other[b][j], sign)
    put(rows[many][many], one[a][a])
    put(rows[many][many], other[b][b], sign)
    return many, rows


def plain_squares(term):
    many, rows = plain_web(term)
    told = {}
    for letter in ["", *letters(term)]:
        square = [[cell.get(letter, Fraction(0)) for cell in row] for row in rows]
        if letter == "" or any(any(row) for row in square):
            told[letter] = [[(one.numerator, one.denominator) for one in row] for row in square]
    return told


class Webs(unittest.TestCase):
    def test_square_by_square(self):
        for text, right in WEBS:
            self.assertEqual(web(read_term(text)), right, text)

    def test_thrown(self):
        chance = random.Random(6)
        for _ in range(150):
            term = some_term(chance, chance.randint(1, 24), "xyz")
            self.assertEqual(web(term), plain_squares(term))

    def test_size(self):
        chance = random.Random(7)
        for _ in range(50):
            term = some_term(chance, chance.randint(1, 24), "xyz")
            words = str(term)
            many = words.count("'times'") + words.count("'undo'") + 1
            self.assertEqual({len(square) for square in web(term).values()}, {many})

    def test_letters_left_out(self):
        self.assertEqual(web(less(X, X)), {"": [[(0, 1)]]})
        self.assertEqual(web(plus(less(X, X), Y)), squares(fixed=[[0]], y=[[1]]))
        self.assertEqual(sorted(web(undo(less(plus(X, Y), X)))), ["", "y"])
        self.assertEqual(sorted(web(less(times(X, S(1)), X))), ["", "x"])
        self.assertEqual(sorted(web(times(S(0), X))), ["", "x"])

    def test_the_fixed_one_is_never_left_out(self):
        for term in (X, S(0), plus(X, Y), less(X, X)):
            self.assertEqual(web(term)[""], [[(0, 1)]])

    def test_bad_terms(self):
        for term, flaw in ((plus(X, "y"), "form"), (undone(X, 24), "many"), (undone(X, 5), "deep"),
                           (plus(plus(plus(X, Y), plus(Z, W)), ("letter", "v")), "letters")):
            with self.assertRaises(BadTerm) as caught:
                web(term)
            self.assertEqual(caught.exception.flaw, flaw)


class Laid(unittest.TestCase):
    def test_by_hand(self):
        told = laid(web(times(X, Y)), {"x": whole([[1, 2], [3, 4]]), "y": whole([[5, 6], [7, 8]])})
        self.assertEqual(told, whole([[-1, 0, 5, 6], [0, -1, 7, 8], [1, 2, 0, 0], [3, 4, 0, 0]]))
        told = laid({"": whole([[2, 0], [0, 3]]), "x": [[(0, 1), (1, 2)], [(0, 1), (1, 1)]]}, {"x": whole([[0, 1], [1, 0]])})
        self.assertEqual(told, [[(2, 1), (0, 1), (0, 1), (1, 2)], [(0, 1), (2, 1), (1, 2), (0, 1)],
                                [(0, 1), (0, 1), (3, 1), (1, 1)], [(0, 1), (0, 1), (1, 1), (3, 1)]])

    def test_thrown(self):
        chance = random.Random(8)
        for size in (1, 2, 3, 4):
            for _ in range(6):
                many = chance.randint(1, 6)
                some = {letter: [[some_share(chance) for _ in range(many)] for _ in range(many)]
                        for letter in ["", "x", "y", "abc"][:chance.randint(1, 4)]}
                tables = {letter: [[some_share(chance, 3) for _ in range(size)] for _ in range(size)]
                          for letter in ("x", "y", "abc")}
                self.assertEqual(fractions(laid(some, tables)), plain_laid(some, tables, size))

    def test_without_letters(self):
        fixed = whole([[1, 2], [3, 4]])
        self.assertEqual(laid({"": fixed}, {}), fixed)
        self.assertEqual(laid({"": fixed}, {"q": whole([[5, 6], [7, 8]])}),
                         whole([[1, 0, 2, 0], [0, 1, 0, 2], [3, 0, 4, 0], [0, 3, 0, 4]]))

    def test_refusals(self):
        some = web(plus(times(X, Y), Z))
        for tables, letter in (({}, "x"), ({"x": unit(2), "z": unit(2)}, "y"), ({"q": unit(2)}, "x"),
                               ({"x": unit(2), "y": unit(2)}, "z")):
            with self.assertRaises(NoLetter) as caught:
                laid(some, tables)
            self.assertEqual(caught.exception.letter, letter)
        for tables, letter in (({"x": unit(2), "y": unit(3), "z": unit(2)}, "y"), ({"z": unit(1), "a": unit(2)}, "z"),
                               ({"q": unit(2), "p": unit(1)}, "q")):
            with self.assertRaises(BadTables) as caught:
                laid(some, tables)
            self.assertEqual(caught.exception.letter, letter)

    def test_a_letter_whose_square_is_nought_is_a_letter_too(self):
        some = {"": unit(1), "x": whole([[0]])}
        self.assertRaises(NoLetter, laid, some, {})
        self.assertEqual(laid(some, {"x": unit(2)}), unit(2))


class CornerLessRow(unittest.TestCase):
    def test_is_the_worth(self):
        chance = random.Random(9)
        seen = 0
        for _ in range(120):
            size = chance.randint(1, 3)
            term = some_term(chance, chance.randint(1, 16), "xyz")
            tables = {letter: some_table(chance, size) for letter in "xyz"}
            right = plain_worth(term, {letter: fractions(tables[letter]) for letter in tables}, size)
            if right is None:
                continue
            rows = fractions(laid(web(term), tables))
            inner = len(rows) - size
            corner = [row[inner:] for row in rows[inner:]]
            if inner:
                back = plain_back([row[:inner] for row in rows[:inner]])
                self.assertIsNotNone(back)
                column = [row[inner:] for row in rows[:inner]]
                taken = plain_product([row[:inner] for row in rows[inner:]], plain_product(back, column))
                corner = [[a - b for a, b in zip(*both)] for both in zip(corner, taken)]
            self.assertEqual(corner, right)
            seen += 1
        self.assertGreater(seen, 80)

    def test_the_greatest(self):
        term = read_term("~~~~x*(~~~~y*~~~~z)*~~~~x")
        some = web(term)
        self.assertEqual(len(some[""]), 20)
        tables = {letter: some_table(random.Random(3), 2) for letter in "xyz"}
        told = laid(some, tables)
        self.assertEqual(rank(told), 40)
        inner = [row[:38] for row in told[:38]]
        back = fractions(turned_back(inner))
        rows = fractions(told)
        taken = plain_product([row[:38] for row in rows[38:]], plain_product(back, [row[38:] for row in rows[:38]]))
        self.assertEqual([[-one for one in row] for row in taken], fractions(worth(term, tables)))


if __name__ == "__main__":
    unittest.main()
