"""Promise [5]: what a reckoning is, its parts and places, letters and undoings."""

import random
import unittest

from helping import S, W, X, Y, Z, less, plus, some_term, times, undo, undone
from nevernought import terms
from nevernought.errors import BadNumber, BadTerm
from nevernought.terms import flaw_of, letters, part, parts, undoings

DOORS = (parts, letters, undoings, lambda term: part(term, 0))
GREATEST = 999999999999


def row_of(many, letter="x"):
    """A sum of 2 * many - 1 parts."""
    told = ("letter", letter)
    for _ in range(many - 1):
        told = plus(told, ("letter", letter))
    return told


def deep_tuple(many):
    told = "x"
    for _ in range(many):
        told = (told,)
    return told


class RightlyBuilt(unittest.TestCase):
    def test_constants(self):
        self.assertEqual((terms.MOST_PARTS, terms.MOST_LETTERS, terms.MOST_DEEP), (24, 4, 4))

    def test_each_kind(self):
        for term in (S(0), S(1), S(-1, 2), S(7, 3), X, plus(X, Y), less(X, S(1)), times(S(-1), X), undo(X),
                     undo(S(0)), undo(undo(X)), plus(undo(times(X, Y)), less(Z, undo(W)))):
            self.assertIsNone(flaw_of(term), term)

    def test_letters_of_one_to_six_signs(self):
        for letter in ("a", "z", "ab", "abcdef", "zzzzzz"):
            self.assertIsNone(flaw_of(("letter", letter)), letter)

    def test_shares_of_twelve_figures(self):
        for share in ((GREATEST, 1), (-GREATEST, 1), (1, GREATEST), (GREATEST - 1, GREATEST), (0, 1)):
            self.assertIsNone(flaw_of(("share", share)), share)


class Form(unittest.TestCase):
    WRONG = [
        "x", "", "plus", 0, 1, None, (), ("share",), ("letter",), ("undo",), ("plus",), ("plus", X), ("less", X),
        ("times", X), ("plus", X, Y, Z), ("less", X, Y, Z), ("times", X, Y, Z), ("undo", X, Y), ("letter", "x", "y"),
        ("share", (1, 1), (1, 1)), ("share", 1, 1), ("minus", X, Y), ("over", X, Y), ("name", "A"), ("x",), ("x", X),
        ("Plus", X, Y), ("UNDO", X), ("", X), (None, X), (1, X), (("plus", X, Y),), (X, Y, Z), (X, "plus", Y),
        ["share", (1, 1)], ["letter", "x"], ["plus", X, Y], ["undo", X], ("share", [1, 1]), ("letter", ["x"]),
        ("letter", ""), ("letter", "abcdefg"), ("letter", "X"), ("letter", "xY"), ("letter", "x1"), ("letter", "1"),
        ("letter", "x "), ("letter", " "), ("letter", "x_"), ("letter", "x\n"), ("letter", 1), ("letter", None),
        ("letter", ("x",)), ("letter", X), ("letter", True), ("letter", ("a", "b")),
        ("share", (2, 4)), ("share", (0, 2)), ("share", (3, 3)), ("share", (1, 0)), ("share", (0, 0)),
        ("share", (1, -1)), ("share", (-1, -2)), ("share", (10 ** 12, 1)), ("share", (-10 ** 12, 1)),
        ("share", (1, 10 ** 12)), ("share", (10 ** 39, 1)), ("share", (True, 1)), ("share", (1, True)),
        ("share", (False, 1)), ("share", (1,)), ("share", (1, 2, 3)), ("share", ()), ("share", 1), ("share", "1"),
        ("share", None), ("share", ("1", 1)), ("share", (1, None)), ("share", (None, 1)), ("share", ((1, 1), 1)),
        ("share", S(1)), ("share", X), ("undo", (1, 1)), ("plus", (1, 1), X), ("undo", ()), ("undo", "x"),
        ("undo", 1), ("undo", None), ("plus", X, "y"), ("plus", "x", Y), ("less", 1, X), ("less", X, 1),
        ("times", None, X), ("times", X, None), True, ("undo", True), ("plus", X, [Y]),
    ]

    def test_at_the_top_and_within(self):
        for wrong in self.WRONG:
            for term in (wrong, undo(wrong), plus(wrong, X), plus(X, wrong), less(wrong, X), less(X, wrong),
                         times(wrong, X), times(X, wrong), undo(undo(times(Y, plus(X, wrong)))),
                         undo(undo(times(plus(wrong, X), Y)))):
                self.assertEqual(flaw_of(term), "form", term)

    def test_a_list_within(self):
        self.assertEqual(flaw_of(plus(X, list(Y))), "form")
        self.assertEqual(flaw_of(undo(list(Y))), "form")
        self.assertEqual(flaw_of(("plus", [X, Y])), "form")

    def test_things_far_within_one_another(self):
        for many in (2, 10, 59, 60):
            self.assertEqual(flaw_of(deep_tuple(many)), "form")
            self.assertEqual(flaw_of(undone(S(2, 2), many)), "form")
            self.assertEqual(flaw_of(undone("x", many)), "form")

    def test_many_things(self):
        self.assertEqual(flaw_of(tuple([X] * 299)), "form")
        self.assertEqual(flaw_of(("plus", *[X] * 150)), "form")
        self.assertEqual(flaw_of(tuple(range(299))), "form")


class Bounds(unittest.TestCase):
    def test_parts(self):
        self.assertIsNone(flaw_of(row_of(12)))
        self.assertIsNone(flaw_of(undo(row_of(12))))
        self.assertEqual(flaw_of(row_of(13)), "many")
        self.assertEqual(flaw_of(undo(undo(row_of(12)))), "many")
        self.assertEqual(flaw_of(row_of(50)), "many")

    def test_letters(self):
        four = plus(plus(X, Y), plus(Z, W))
        self.assertIsNone(flaw_of(four))
        self.assertIsNone(flaw_of(plus(four, four)))
        self.assertEqual(flaw_of(plus(four, ("letter", "v"))), "letters")
        self.assertEqual(flaw_of(plus(four, ("letter", "xx"))), "letters")

    def test_deep(self):
        self.assertIsNone(flaw_of(undone(X, 4)))
        self.assertEqual(flaw_of(undone(X, 5)), "deep")
        self.assertEqual(flaw_of(undone(X, 23)), "deep")
        self.assertEqual(flaw_of(undone(X, 24)), "many")
        spread = undo(plus(Y, undo(times(X, undo(less(undo(X), Y))))))
        self.assertIsNone(flaw_of(spread))
        self.assertEqual(flaw_of(undo(spread)), "deep")
        self.assertEqual(flaw_of(plus(X, undo(spread))), "deep")

    def test_undoings_side_by_side_are_not_within_one_another(self):
        self.assertIsNone(flaw_of(plus(undone(X, 4), plus(undone(Y, 4), undone(X, 4)))))

    def test_order(self):
        five = plus(plus(plus(X, Y), plus(Z, W)), ("letter", "v"))
        self.assertEqual(flaw_of(undone(five, 5)), "letters")
        self.assertEqual(flaw_of(undone(plus(five, plus(five, five)), 5)), "many")
        self.assertEqual(flaw_of(undone(plus(row_of(12), X), 5)), "many")
        self.assertEqual(flaw_of(undone(plus(five, plus(five, plus(five, "x"))), 5)), "form")
        self.assertEqual(flaw_of(undone(("letter", "X"), 5)), "form")
        self.assertEqual(flaw_of(plus(row_of(30), S(2, 4))), "form")
        self.assertEqual(flaw_of(plus(S(2, 4), row_of(30))), "form")


class Doors(unittest.TestCase):
    WRONG = [(plus(X, "y"), "form"), (None, "form"), ([X], "form"), (row_of(13), "many"),
             (plus(plus(plus(X, Y), plus(Z, W)), ("letter", "v")), "letters"), (undone(X, 5), "deep")]

    def test_bad_terms(self):
        for term, flaw in self.WRONG:
            for door in DOORS:
                with self.assertRaises(BadTerm) as caught:
                    door(term)
                self.assertEqual((caught.exception.word, caught.exception.flaw), ("BadTerm", flaw))

    def test_bad_term_ahead_of_bad_number(self):
        for place in (-1, 0, 99):
            self.assertRaises(BadTerm, part, undone(X, 5), place)

    def test_parts(self):
        self.assertEqual(parts(X), 1)
        self.assertEqual(parts(undo(X)), 2)
        self.assertEqual(parts(plus(X, X)), 3)
        self.assertEqual(parts(undo(row_of(12))), 24)

    def test_part_at_each_place(self):
        one, other = undo(times(X, S(1, 2))), less(Y, undo(undo(Z)))
        term = plus(one, other)
        right = [term, one, times(X, S(1, 2)), X, S(1, 2), other, Y, undo(undo(Z)), undo(Z), Z]
        self.assertEqual([part(term, place) for place in range(parts(term))], right)

    def test_no_such_place(self):
        for term in (X, undo(X), plus(X, Y), undo(row_of(12))):
            for place in (-1, -2, parts(term), parts(term) + 1, 10 ** 39, -10 ** 39):
                with self.assertRaises(BadNumber) as caught:
                    part(term, place)
                self.assertEqual(caught.exception.number, place)
            self.assertEqual(part(term, 0), term)

    def test_letters(self):
        self.assertEqual(letters(S(1)), [])
        self.assertEqual(letters(X), ["x"])
        self.assertEqual(letters(plus(Y, times(X, Y))), ["x", "y"])
        self.assertEqual(letters(plus(plus(Z, ("letter", "zz")), plus(("letter", "ab"), X))), ["ab", "x", "z", "zz"])

    def test_undoings_from_within(self):
        self.assertEqual(undoings(X), [])
        self.assertEqual(undoings(undo(X)), [0])
        self.assertEqual(undoings(undone(X, 4)), [3, 2, 1, 0])
        self.assertEqual(undoings(plus(undo(X), undo(Y))), [1, 3])
        self.assertEqual(undoings(undo(plus(undo(X), undo(Y)))), [2, 4, 0])
        self.assertEqual(undoings(times(undo(plus(X, undo(undo(Y)))), less(undo(Z), undo(undo(X))))),
                         [5, 4, 1, 8, 11, 10])

    def test_undoings_are_undoings(self):
        chance = random.Random(1)
        for many in range(1, 25):
            term = some_term(chance, many, "xyz")
            self.assertIsNone(flaw_of(term))
            self.assertEqual(parts(term), many)
            places = undoings(term)
            right = [place for place in range(many) if part(term, place)[0] == "undo"]
            self.assertEqual(sorted(places), right)
            for place in places:
                within = range(place + 1, place + parts(part(term, place)))
                self.assertTrue(all(places.index(k) < places.index(place) for k in within if k in places))


if __name__ == "__main__":
    unittest.main()
