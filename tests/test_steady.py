"""Promises [16] and [17]: steady reckonings, the words they weigh, and their least machines."""

import inspect
import random
import time
import unittest
from fractions import Fraction

from helping import (S, W, X, Y, Z, less, plain_least, plain_series, plus, some_steady, some_term, times, undo, undone,
                     whole, words_of)
from nevernought.alike import alike
from nevernought.errors import BadNumber, BadTerm, Unsteady
from nevernought.machines import Machine
from nevernought.steady import machine_of, plain, weights
from nevernought.terms import flaw_of, letters, part, undoings
from nevernought.tongue import read_term
from nevernought.worths import worth

V = ("letter", "v")
BAD = [(plus(X, "y"), "form"), (undone(X, 24), "many"), (plus(plus(plus(X, Y), plus(Z, W)), V), "letters"),
       (undone(X, 5), "deep")]
# Each with the place of the first undoing from within whose thing's worth is nought at noughts.
UNSTEADY = [("~x", 0), ("~0", 0), ("~(x + y)", 0), ("~(1 - 1)", 0), ("~~x", 1), ("~(1 + ~x)", 3), ("x + ~y", 2),
            ("~(1 - x) + ~y", 5), ("~x*~y", 1), ("~(1 - x)*~(~(1 - y) - 1)", 5), ("~(~x + ~(y + 1))", 2),
            ("~(~(1 + x) - 1)", 0), ("0*~x", 2), ("~(x*y - y*x)", 0), ("~~~(x*2)", 2), ("~(2 - ~(1/2 + x))", 0),
            ("~(x + 1) + ~(x + ~(x - 1)) + ~(~(y + 1) - 1)", 13), ("~(~(x - x) + ~x)", 2)]
LIKE = [("x", "x"), ("x + y", "y + x"), ("~(1 - x)", "1 + x*~(1 - x)"), ("~(1 - x)", "1 + ~(1 - x)*x"),
        ("x*~(1 - y*x)", "~(1 - x*y)*x"), ("~(1 - x*y)", "1 + x*~(1 - y*x)*y"), ("~((1 - x)*(1 - y))", "~(1 - y)*~(1 - x)"),
        ("~~(1 + x)", "1 + x"), ("(x + 1)*(x - 1)", "x*x - 1"), ("~(1 - x - y)", "~(1 - ~(1 - x)*y)*~(1 - x)"),
        ("x*~(2 - x)", "~(2 - x)*x"), ("0", "x - x"), ("0*x*y", "z*0"), ("(1 - x)*~(1 - x)", "1"), ("~2*x", "x*1/2"),
        ("~(~(1 - x) + ~(1 + x))", "(1 - x)*(1 + x)*~2"), ("~(1 + ~(1 + x))", "1 - ~(2 + x)")]
UNLIKE = [("x", "y"), ("x*y", "y*x"), ("~(1 - x)", "~(1 + x)"), ("x*~(1 - y*x)", "~(1 - y*x)*x"), ("1", "2"), ("0", "x"),
          ("~((1 - x)*(1 - y))", "~(1 - x)*~(1 - y)"), ("~(1 - x - y)", "~(1 - x)*~(1 - y)"), ("x*x*x*x*x*x", "x*x*x*x*x")]


def word(text):
    return tuple(text)


def lifting(names, told):
    """Tables that lift from letter to letter of a word."""
    size = len(told) + 1
    return {name: whole([[int(j == i + 1 and told[i] == name) for j in range(size)] for i in range(size)]) for name in names}


def some_words(chance, leaves, names):
    """A reckoning without undoings of so many shares and letters."""
    if leaves == 1:
        return ("letter", chance.choice(names)) if chance.random() < 0.8 else S(chance.randint(-2, 2))
    ahead = chance.randint(1, leaves - 1)
    one, other = some_words(chance, ahead, names), some_words(chance, leaves - ahead, names)
    return (chance.choice(["plus", "less", "times", "times"]), one, other)


class Checks(unittest.TestCase):
    def check(self, term, most=4):
        """Goes through weights and the machine by the sums and products of series."""
        right = plain_series(term, most)
        told = weights(term, most=most)
        self.assertIs(type(told), list)
        order = [key for key, share in told]
        self.assertEqual(order, sorted(order, key=lambda one: (len(one), one)))
        self.assertEqual({key: Fraction(*share) for key, share in told}, {key: right[key] for key in right if right[key]})
        self.assertEqual(len(set(order)), len(order))
        machine = machine_of(term)
        for key in words_of(letters(term), min(most, 3)):
            self.assertEqual(Fraction(*machine.weight(key)), right.get(key, 0))
        self.assertEqual(machine.least(), machine)
        return machine


class Weights(Checks):
    def test_by_hand(self):
        for text, right in (
                ("0", []), ("3/2", [("", (3, 2))]), ("x", [("x", (1, 1))]), ("x + 1", [("", (1, 1)), ("x", (1, 1))]),
                ("x - x", []), ("x - y", [("x", (1, 1)), ("y", (-1, 1))]), ("x*y", [("xy", (1, 1))]),
                ("x*y - y*x", [("xy", (1, 1)), ("yx", (-1, 1))]), ("~2", [("", (1, 2))]), ("~~3", [("", (3, 1))]),
                ("~(1 - x)", [("", (1, 1)), ("x", (1, 1)), ("xx", (1, 1)), ("xxx", (1, 1))]),
                ("~(1 + x)", [("", (1, 1)), ("x", (-1, 1)), ("xx", (1, 1)), ("xxx", (-1, 1))]),
                ("~(2 - x)", [("", (1, 2)), ("x", (1, 4)), ("xx", (1, 8)), ("xxx", (1, 16))]),
                ("x*~(1 - y*x)", [("x", (1, 1)), ("xyx", (1, 1))]), ("(x + y)*(x - y)*x*x", []),
                ("(x + 1)*(y + 2)", [("", (2, 1)), ("x", (2, 1)), ("y", (1, 1)), ("xy", (1, 1))]),
                ("~(1 - x - y)*0", []), ("~(1 - x*x*x)", [("", (1, 1)), ("xxx", (1, 1))]),
                ("~(~(1 - x))", [("", (1, 1)), ("x", (-1, 1))]), ("b*a + a*b + b + a + 1", [
                    ("", (1, 1)), ("a", (1, 1)), ("b", (1, 1)), ("ab", (1, 1)), ("ba", (1, 1))])):
            self.assertEqual(weights(read_term(text)), [(word(key), share) for key, share in right], text)

    def test_words_are_tuples_of_letters(self):
        self.assertEqual(weights(read_term("ab*c + a*bc")), [(("a", "bc"), (1, 1)), (("ab", "c"), (1, 1))])
        self.assertEqual(weights(read_term("a*a + aa")), [(("aa",), (1, 1)), (("a", "a"), (1, 1))])
        told = weights(read_term("b + aa"))
        self.assertEqual(told, [(("aa",), (1, 1)), (("b",), (1, 1))])
        self.assertIsInstance(told[0], tuple)

    def test_how_long(self):
        term = read_term("~(1 - x)")
        for most in range(6):
            self.assertEqual(weights(term, most=most), [(("x",) * k, (1, 1)) for k in range(most + 1)])
        self.assertEqual(weights(term), weights(term, most=3))
        self.assertEqual(weights(most=1, term=term), weights(term, most=1))
        told = inspect.signature(weights).parameters["most"]
        self.assertEqual((told.default, told.kind), (3, told.KEYWORD_ONLY))
        self.assertRaises(TypeError, weights, term, 2)
        self.assertEqual(len(weights(read_term("~(1 - x - y - z - w)"), most=5)), 1365)

    def test_thrown(self):
        chance = random.Random(80)
        seen = set()
        for _ in range(150):
            term = some_steady(chance, chance.randint(1, 20), "xyz"[:chance.randint(1, 3)], figures=chance.choice([1, 1, 12]))
            if flaw_of(term) is None and plain_series(term, 0) is not None:
                seen.add(len(self.check(term, chance.randint(0, 5))))
        self.assertTrue({1, 2, 3, 4, 5} <= seen)

    def test_undoings_take_their_things_away(self):
        chance = random.Random(81)
        for _ in range(40):
            thing = some_steady(chance, chance.randint(1, 9), "xy", deep=2)
            if plain_series(undo(thing), 0) is not None:
                for product in (times(thing, undo(thing)), times(undo(thing), thing)):
                    self.assertEqual(weights(product, most=5), [((), (1, 1))])
                    self.assertEqual(machine_of(product), machine_of(S(1)))

    def test_the_corner_of_the_worth_at_tables_that_lift(self):
        chance = random.Random(82)
        for _ in range(30):
            term = some_steady(chance, chance.randint(1, 14), "xy")
            if flaw_of(term) is not None or plain_series(term, 0) is None:
                continue
            machine = machine_of(term)
            for key in words_of("xy", 3):
                self.assertEqual(worth(term, lifting("xy", key))[0][-1], machine.weight(key))


class Machines(Checks):
    def test_by_hand(self):
        for text, rooms, names in (("0", 0, []), ("1/2", 1, []), ("x", 2, ["x"]), ("x*y", 3, ["x", "y"]), ("~(1 - x)", 1, ["x"]),
                                   ("x - x", 0, []), ("x + y", 2, ["x", "y"]), ("x*~(1 - y*x)", 2, ["x", "y"]),
                                   ("~(1 - x*y)", 2, ["x", "y"]), ("x*y - y*x", 4, ["x", "y"]), ("x + 0*y", 2, ["x"]),
                                   ("(1 - x)*~(1 - x)", 1, []), ("~(1 - x)*~(1 - x)", 2, ["x"]), ("x*x*x*x*x*x*x*x*x*x*x*x", 13, ["x"])):
            machine = machine_of(read_term(text))
            self.assertIsInstance(machine, Machine)
            self.assertEqual((len(machine), machine.letters()), (rooms, names), text)
        one = machine_of(read_term("~(2 - x)"))
        self.assertEqual((one.begin(), one.end(), one.steps("x")), ([(1, 1)], [(1, 2)], [[(1, 2)]]))
        two = machine_of(read_term("y*x"))
        self.assertEqual((two.begin(), two.end()), (whole([[1, 0, 0]])[0], whole([[0, 0, 1]])[0]))
        self.assertEqual((two.steps("x"), two.steps("y")), (whole([[0, 0, 0], [0, 0, 1], [0, 0, 0]]), whole([[0, 1, 0], [0, 0, 0], [0, 0, 0]])))

    def test_it_is_the_least_one_by_the_words_rows(self):
        chance = random.Random(83)
        seen = set()
        for _ in range(60):
            term = some_steady(chance, chance.randint(1, 10), "xy", deep=2)
            if plain_series(term, 0) is None:
                continue
            machine = machine_of(term)
            if len(machine) > 3:
                continue
            series = plain_series(term, 2 * len(machine) + 3)
            right = plain_least(lambda key: series.get(key, Fraction(0)), letters(term), len(machine) + 1)
            told = (machine.letters(), machine.begin(), {name: machine.steps(name) for name in machine.letters()}, machine.end())
            self.assertEqual(told, right, term)
            seen.add(len(machine))
        self.assertTrue({1, 2, 3} <= seen)

    def test_alike_ones_have_the_same(self):
        for one, other in LIKE:
            self.assertEqual(alike(read_term(one), read_term(other))[0], "alike")
            self.assertEqual(machine_of(read_term(one)), machine_of(read_term(other)), (one, other))
            self.assertEqual(weights(read_term(one), most=5), weights(read_term(other), most=5))
        for one, other in UNLIKE:
            self.assertEqual(alike(read_term(one), read_term(other))[0], "unlike")
            self.assertNotEqual(machine_of(read_term(one)), machine_of(read_term(other)), (one, other))
            self.assertIsNotNone(machine_of(read_term(one)).unlike(machine_of(read_term(other))))

    def test_thrown_ones_are_alike_where_machines_are_the_same(self):
        chance = random.Random(84)
        seen = {True: 0, False: 0}
        for _ in range(60):
            one = some_steady(chance, chance.randint(1, 8), "xy", deep=1)
            other = chance.choice([lambda: some_steady(chance, chance.randint(1, 6), "xy", deep=1), lambda: less(plus(one, X), X),
                                   lambda: times(times(one, plus(X, S(1))), undo(plus(S(1), X)))])()
            if plain_series(one, 0) is None or plain_series(other, 0) is None:
                continue
            right = alike(one, other)[0] == "alike"
            seen[right] += 1
            self.assertIs(machine_of(one) == machine_of(other), right, (one, other))
        self.assertGreater(min(seen.values()), 10)

    def test_sums_and_products(self):
        chance = random.Random(85)
        for _ in range(30):
            one, other = (some_steady(chance, chance.randint(1, 9), "xyz", deep=2) for _ in range(2))
            if plain_series(one, 0) is None or plain_series(other, 0) is None or flaw_of(plus(one, other)) is not None:
                continue
            first, second = machine_of(one), machine_of(other)
            self.assertEqual(first.plus(second).least(), machine_of(plus(one, other)))
            self.assertEqual(first.times(second).least(), machine_of(times(one, other)))
            self.assertEqual(machine_of(S(-1)).times(second).plus(first).least(), machine_of(less(one, other)))

    def test_bearable(self):
        chance = random.Random(86)
        start = time.process_time()
        many = 0
        for _ in range(150):
            term = some_steady(chance, 24, "xyzw", figures=12)
            if flaw_of(term) is None and plain_series(term, 0) is not None:
                machine_of(term), weights(term), plain(term)
                many += 1
        self.assertGreater(many, 80)
        self.assertLess(time.process_time() - start, 60)


class Plain(Checks):
    def test_by_hand(self):
        for text, right in (
                ("0", []), ("x - x", []), ("-7/3", [("", (-7, 3))]), ("x", [("x", (1, 1))]), ("~2", [("", (1, 2))]),
                ("(x + y)*(x - y)", [("xx", (1, 1)), ("xy", (-1, 1)), ("yx", (1, 1)), ("yy", (-1, 1))]),
                ("(x + 1)*(x - 1)*x", [("x", (-1, 1)), ("xxx", (1, 1))]), ("~~(1 + x*y)", [("", (1, 1)), ("xy", (1, 1))]),
                ("(1 - x)*~(1 - x)", [("", (1, 1))]), ("(1 - x*x*x)*~(1 - x)", [("", (1, 1)), ("x", (1, 1)), ("xx", (1, 1))]),
                ("~(~(1 - x) + ~(1 + x))", [("", (1, 2)), ("xx", (-1, 2))]), ("x*y*~(1 - z)*(1 - z)", [("xy", (1, 1))]),
                ("~(1 - x) - x*~(1 - x) + y", [("", (1, 1)), ("y", (1, 1))]), ("0*~(1 - x)", []),
                ("x*x*x*x*x*x*x*x*x*x*x*x", [("x" * 12, (1, 1))]), ("b + a*b*b", [("b", (1, 1)), ("abb", (1, 1))])):
            self.assertEqual(plain(read_term(text)), [(word(key), share) for key, share in right], text)

    def test_without_end(self):
        for text in ("~(1 - x)", "~(1 + x)", "y*~(2 - x)", "~(1 - x*y)", "~(1 - x)*~(1 - y)", "(1 - y)*~(1 - x)", "~(1 - x) - 1",
                     "~~(1 + ~(1 - x*y*z))", "~(1 - x) - x*~(1 - y)", "z + x*~(1 - x*x*x*x)", "x*y*~(1 - x)*z"):
            self.assertIsNone(plain(read_term(text)), text)

    def test_sums_of_words(self):
        chance = random.Random(87)
        for _ in range(60):
            term = some_words(chance, chance.randint(1, 12), "xyz")
            told = plain(term)
            right = plain_series(term, 24)
            self.assertEqual({key: Fraction(*share) for key, share in told}, {key: right[key] for key in right if right[key]})
            self.assertEqual([key for key, share in told], sorted((key for key in right if right[key]), key=lambda one: (len(one), one)))

    def test_undoings_that_take_one_another_away(self):
        chance = random.Random(88)
        seen = 0
        for _ in range(40):
            words = some_words(chance, chance.randint(1, 4), "xy")
            thing = some_steady(chance, chance.randint(1, 5), "xy", deep=1)
            term = times(times(words, undo(thing)), thing)
            if flaw_of(term) is None and plain_series(term, 0) is not None:
                self.assertEqual(plain(term), plain(words))
                self.assertEqual(plain(less(plus(words, thing), thing)), plain(words))
                seen += 1
        self.assertGreater(seen, 10)

    def test_many_words(self):
        self.assertEqual(len(plain(read_term("(a + b + c)*(a + b + c)*(a + b + c)*(a + b + c)"))), 81)
        self.assertEqual(len(plain(read_term("(a + b)*(a + b)*(a + b)*(a + b)*(a + b)*(a + b)"))), 64)


class Refusals(Checks):
    DOORS = (machine_of, plain, weights, lambda term: weights(term, most=0), lambda term: weights(term, most=5))

    def test_unsteady(self):
        for text, place in UNSTEADY:
            term = read_term(text)
            self.assertIn(place, undoings(term))
            for door in self.DOORS:
                with self.assertRaises(Unsteady) as caught:
                    door(term)
                self.assertEqual((caught.exception.word, caught.exception.place), ("Unsteady", place), text)

    def test_the_first_from_within_whose_thing_is_nought_at_noughts(self):
        chance = random.Random(89)
        seen = 0
        for _ in range(200):
            term = some_term(chance, chance.randint(2, 16), "xy")
            noughts = {name: [[(0, 1)]] for name in letters(term)}
            right = next((place for place in undoings(term) if worth(part(term, place)[1], noughts) == [[(0, 1)]]), None)
            if right is not None:
                seen += 1
                with self.assertRaises(Unsteady) as caught:
                    machine_of(term)
                self.assertEqual(caught.exception.place, right)
            else:
                self.check(term, 2)
        self.assertTrue(20 < seen < 200)

    def test_bad_terms_go_first(self):
        for term, flaw in BAD:
            for door in (*self.DOORS, lambda term: weights(term, most=-1), lambda term: weights(term, most=6)):
                with self.assertRaises(BadTerm) as caught:
                    door(term)
                self.assertEqual(caught.exception.flaw, flaw)

    def test_bad_numbers_ahead_of_unsteady(self):
        for term in (X, undo(X), undo(S(0)), S(1)):
            for most in (-1, 6, -5, 7, 100, 10 ** 39, -10 ** 39):
                with self.assertRaises(BadNumber) as caught:
                    weights(term, most=most)
                self.assertEqual((caught.exception.word, caught.exception.number), ("BadNumber", most))


if __name__ == "__main__":
    unittest.main()
