"""Promise [6]: what a reckoning is worth at tables."""

import random
import unittest

from helping import (S, W, X, Y, Z, fractions, less, pairs, plain_worth, plus, some_share, some_table, some_term, times,
                     undo, undone, whole)
from nevernought.errors import BadTables, BadTerm, NoLetter
from nevernought.tables import product, turned_back, unit
from nevernought.tongue import read_term
from nevernought.worths import worth

A = whole([[1, 2], [3, 4]])
B = whole([[0, 1], [1, 1]])
FLAT = whole([[1, 2], [2, 4]])
NOUGHT = whole([[0, 0], [0, 0]])


class Parts(unittest.TestCase):
    def test_share_is_so_many_times_the_unit(self):
        self.assertEqual(worth(S(3), {}), [[(3, 1)]])
        self.assertEqual(worth(S(-1, 2), {"x": A}), [[(-1, 2), (0, 1)], [(0, 1), (-1, 2)]])
        self.assertEqual(worth(S(0), {"x": unit(4)}), whole([[0] * 4] * 4))

    def test_letter(self):
        self.assertEqual(worth(X, {"x": A, "y": B}), A)

    def test_sums(self):
        self.assertEqual(worth(plus(X, Y), {"x": A, "y": B}), whole([[1, 3], [4, 5]]))
        self.assertEqual(worth(less(X, Y), {"x": A, "y": B}), whole([[1, 1], [2, 3]]))
        self.assertEqual(worth(less(Y, X), {"x": A, "y": B}), whole([[-1, -1], [-2, -3]]))
        self.assertEqual(worth(less(X, S(1)), {"x": A}), whole([[0, 2], [3, 3]]))
        self.assertEqual(worth(less(S(1, 2), S(1, 3)), {}), [[(1, 6)]])

    def test_products_in_their_order(self):
        self.assertEqual(worth(times(X, Y), {"x": A, "y": B}), whole([[2, 3], [4, 7]]))
        self.assertEqual(worth(times(Y, X), {"x": A, "y": B}), whole([[3, 4], [4, 6]]))
        self.assertEqual(worth(times(S(1, 2), X), {"x": B}), [[(0, 1), (1, 2)], [(1, 2), (1, 2)]])

    def test_undoings(self):
        self.assertEqual(worth(undo(X), {"x": A}), [[(-2, 1), (1, 1)], [(3, 2), (-1, 2)]])
        self.assertEqual(worth(undo(undo(X)), {"x": A}), A)
        self.assertEqual(worth(times(undo(X), X), {"x": A}), unit(2))
        self.assertEqual(worth(undo(S(2)), {}), [[(1, 2)]])
        self.assertEqual(worth(undo(S(-2)), {"x": A}), [[(-1, 2), (0, 1)], [(0, 1), (-1, 2)]])

    def test_the_document_s_own(self):
        term = read_term("~(x + 1)*y - (-1/2)*~~x")
        self.assertEqual(worth(term, {"x": [[(2, 1)]], "y": [[(5, 1)]]}), [[(8, 3)]])


class NoWorth(unittest.TestCase):
    def test_at_the_top(self):
        for table in (FLAT, NOUGHT):
            self.assertIsNone(worth(undo(X), {"x": table}))
        self.assertIsNone(worth(undo(S(0)), {}))
        self.assertIsNone(worth(undo(less(X, X)), {"x": A}))
        self.assertIsNone(worth(undo(X), {"x": whole([[0, 1, 0], [0, 0, 1], [0, 0, 0]])}))

    def test_within(self):
        none = undo(X)
        for term in (undo(none), plus(none, Y), plus(Y, none), less(none, none), times(none, S(0)), times(S(0), none),
                     undo(plus(Y, none)), less(times(Y, undo(undo(none))), Y)):
            self.assertIsNone(worth(term, {"x": FLAT, "y": A}), term)
            self.assertIsNotNone(worth(plus(Y, X), {"x": FLAT, "y": A}))

    def test_behind_one_that_has_a_worth(self):
        term = undo(less(undo(X), undo(Y)))
        self.assertIsNone(worth(term, {"x": A, "y": A}))
        self.assertIsNotNone(worth(term, {"x": A, "y": B}))

    def test_commutators_at_size_one_and_two(self):
        term = undo(less(times(X, Y), times(Y, X)))
        self.assertIsNone(worth(term, {"x": [[(2, 1)]], "y": [[(3, 1)]]}))
        self.assertIsNotNone(worth(term, {"x": A, "y": B}))


class ByAnotherWay(unittest.TestCase):
    def test_thrown(self):
        chance = random.Random(4)
        kinds = set()
        for _ in range(250):
            size = chance.randint(1, 4)
            term = some_term(chance, chance.randint(1, 24), "xyzw")
            tables = {letter: some_table(chance, size, 2) for letter in "xyzw"}
            right = plain_worth(term, {letter: fractions(tables[letter]) for letter in tables}, size)
            told = worth(term, tables)
            kinds.add((size, told is None))
            self.assertEqual(told, None if right is None else pairs(right))
        self.assertEqual(len(kinds), 8)

    def test_great_shares(self):
        chance = random.Random(5)
        for term in ("~(x*y + ~(z - ~(w + ~x*1/3)))*y", "~(~(~(~(x + y) + z) + w) + 1/3) - x*y*z*w", "~~~~x*~y*z"):
            for size in (1, 2, 4):
                tables = {letter: [[some_share(chance, 12) for _ in range(size)] for _ in range(size)]
                          for letter in "xyzw"}
                right = plain_worth(read_term(term), {letter: fractions(tables[letter]) for letter in tables}, size)
                self.assertEqual(worth(read_term(term), tables), pairs(right))

    def test_worths_may_be_handed_on(self):
        one = worth(read_term("~(x + 1/7)*x"), {"x": A})
        other = worth(undo(X), {"x": one})
        self.assertEqual(product(one, other), unit(2))
        self.assertEqual(other, turned_back(one))
        greater = {"x": some_table(random.Random(1), 7)}
        self.assertEqual(worth(undo(X), greater), turned_back(greater["x"]))


class Refusals(unittest.TestCase):
    def test_bad_tables(self):
        three = unit(3)
        for tables, letter in (({"x": A, "y": three}, "y"), ({"y": three, "x": A}, "y"), ({"x": three, "y": A}, "y"),
                               ({"x": A, "b": three, "c": three}, "x"), ({"c": A, "a": A, "b": [[(1, 1)]]}, "b"),
                               ({"x": A, "y": B, "z": three, "w": three}, "x"), ({"a": A, "ab": three, "b": three}, "ab")):
            with self.assertRaises(BadTables) as caught:
                worth(X, tables)
            self.assertEqual(caught.exception.letter, letter, tables)

    def test_no_letter(self):
        term = plus(Z, times(Y, undo(X)))
        for tables, letter in (({}, "x"), ({"x": A}, "y"), ({"y": A}, "x"), ({"x": A, "y": A}, "z"), ({"z": A}, "x"),
                               ({"xx": A, "y": A, "z": A}, "x")):
            with self.assertRaises(NoLetter) as caught:
                worth(term, tables)
            self.assertEqual(caught.exception.letter, letter)

    def test_no_letter_though_there_is_no_worth(self):
        self.assertRaises(NoLetter, worth, plus(undo(S(0)), X), {})
        self.assertRaises(NoLetter, worth, plus(undo(X), Y), {"x": FLAT})

    def test_bad_tables_ahead_of_no_letter(self):
        with self.assertRaises(BadTables) as caught:
            worth(X, {"y": A, "z": unit(3)})
        self.assertEqual(caught.exception.letter, "z")
        self.assertRaises(BadTables, worth, S(1), {"y": A, "z": unit(3)})

    def test_bad_term_ahead_of_both(self):
        bad = {"y": A, "z": unit(3)}
        for term, flaw in ((plus(X, None), "form"), (undone(X, 24), "many"), (undone(X, 5), "deep"),
                           (plus(plus(plus(X, Y), plus(Z, W)), ("letter", "v")), "letters")):
            for tables in ({}, bad, {"x": A}):
                with self.assertRaises(BadTerm) as caught:
                    worth(term, tables)
                self.assertEqual(caught.exception.flaw, flaw)

    def test_tables_for_other_letters(self):
        self.assertEqual(worth(X, {"x": A, "q": FLAT, "abcdef": NOUGHT}), A)
        self.assertEqual(worth(S(2), {"q": unit(3)}), whole([[2, 0, 0], [0, 2, 0], [0, 0, 2]]))


if __name__ == "__main__":
    unittest.main()
