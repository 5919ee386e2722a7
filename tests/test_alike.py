"""Promises [7] and [12]: reckonings that are nought, ones that are alike, and the papers that show it."""

import copy
import random
import time
import unittest

from helping import (S, W, X, Y, Z, fractions, is_nought, is_sound, less, plain_is_room, plain_worth, plus, some_term,
                     times, undo, undone, whole)
from nevernought.alike import alike, alike_holds, commute, nought, nought_holds
from nevernought.errors import BadTerm, Unsound
from nevernought.sound import sound
from nevernought.tables import unit
from nevernought.terms import letters, parts
from nevernought.tongue import read_term
from nevernought.webs import web, web_of

NOUGHT = ["0", "x - x", "0*x", "x*0", "~x - ~x", "x*y - x*y", "(x + y)*z - x*z - y*z", "x*(y + z) - x*y - x*z",
          "~x*x - 1", "x*~x - 1", "~~x - x", "~(x*y) - ~y*~x", "~(2*x) - 1/2*~x", "x*2 - 2*x", "1/2 + 1/3 - 5/6",
          "~(~x + ~y) - x*~(x + y)*y", "x*~(x + y)*y - y*~(x + y)*x", "~(~x + ~(~y - x)) - x + x*y*x",
          "~x - ~(x + y) - ~x*y*~(x + y)", "~(1 - x*y) - 1 - x*~(1 - y*x)*y", "(x - x)*~(x*y - y*x)",
          "~(x*y - y*x) + ~(y*x - x*y)"]
NOT_NOUGHT = ["1", "-1/2", "x", "x*y", "x*y - y*x", "x*y*x - x*x*y", "~x", "~x - ~y", "~(x*y) - ~x*~y", "~(x + y) - ~x - ~y",
              "x*x - x", "(x - 1)*(x - 2)*(x - 3)", "x*~y*z - z*~y*x", "x*y*z - z*y*x", "~(x*y - y*x)",
              "1/2 + 1/3 - 5/7", "x*y*z + y*z*x - x*z*y - z*y*x", "x*~(1 - y*x) - ~(1 - x*y)*y", "x*(x*y - y*x)"]

ALIKE = [("x", "x"), ("x + y", "y + x"), ("x*(y*z)", "x*y*z"), ("x - y", "0 - (y - x)"), ("~(x*y)", "~y*~x"),
         ("~~x", "x"), ("~x*~x", "~(x*x)"), ("(x + 1)*(x - 1)", "x*x - 1"), ("~x*(x + y)*~y", "~x + ~y"),
         ("x - x*~(x + y)*x", "~(~x + ~y)"), ("~(~x + ~(~y - x))", "x - x*y*x"), ("x*~(1 - y*x)", "~(1 - x*y)*x"),
         ("~(1 - x)", "1 + x*~(1 - x)"), ("1/3*x", "x*1/3"), ("~(x*y - y*x)", "0 - ~(y*x - x*y)"),
         ("~(x + y)*y", "1 - ~(x + y)*x"), ("x*y*~y*~x", "1"), ("2", "1 + 1"), ("0", "x - x"),
         ("1 - ~(1 + x)", "~(1 + ~x)"), ("~(~(x - 1) + 1)", "1 - ~x")]
UNLIKE = [("x", "y"), ("x*y", "y*x"), ("x*y*x", "x*x*y"), ("~(x*y)", "~x*~y"), ("x", "x + 1"), ("1", "2"), ("0", "x"),
          ("(x + y)*(x - y)", "x*x - y*y"), ("~(x + y)", "~x + ~y"), ("~x", "x"), ("x*y*z", "z*y*x"), ("~(x*y - y*x)", "x"),
          ("x*~y", "~y*x"), ("999999999999/999999999998", "999999999998/999999999997"), ("x + a", "x + b"),
          ("a + b*c - d", "e + f*g - h")]


def in_fractions(tables):
    return {letter: fractions(tables[letter]) for letter in tables}


def size_of(tables):
    return max([len(table) for table in tables.values()], default=1)


class Checks(unittest.TestCase):
    def check_tables(self, tables, found):
        self.assertIsInstance(tables, dict)
        self.assertEqual(sorted(tables), found)
        for table in tables.values():
            self.assertEqual([len(row) for row in table], [size_of(tables)] * size_of(tables))

    def check_nought(self, term, right):
        paper = nought(term)
        self.assertIsInstance(paper, tuple)
        self.assertEqual((len(paper), paper[0]), (2, "nought" if right else "else"), term)
        if right:
            self.assertTrue(plain_is_room(web(term), paper[1]))
        else:
            self.check_tables(paper[1], letters(term))
            worth = plain_worth(term, in_fractions(paper[1]), size_of(paper[1]))
            self.assertTrue(any(any(row) for row in worth))
        self.assertIs(nought_holds(term, paper), True)
        return paper

    def check_alike(self, one, other, right):
        paper = alike(one, other)
        self.assertIsInstance(paper, tuple)
        self.assertEqual((len(paper), paper[0]), (2, "alike" if right else "unlike"), (one, other))
        if right:
            self.assertTrue(plain_is_room(web_of(less(one, other)), paper[1]))
        else:
            self.check_tables(paper[1], sorted({*letters(one), *letters(other)}))
            worths = [plain_worth(term, in_fractions(paper[1]), size_of(paper[1])) for term in (one, other)]
            self.assertNotIn(None, worths)
            self.assertNotEqual(*worths)
        self.assertIs(alike_holds(one, other, paper), True)
        return paper


class Nought(Checks):
    def test_both_ways(self):
        for text in NOUGHT:
            self.check_nought(read_term(text), True)
        for text in NOT_NOUGHT:
            self.check_nought(read_term(text), False)

    def test_thrown(self):
        chance = random.Random(22)
        seen = {True: 0, False: 0}
        for _ in range(300):
            term = some_term(chance, chance.randint(1, 14), "xy", deep=chance.choice([1, 4]))
            if chance.random() < 0.3 and parts(term) < 11:
                term = less(term, chance.choice([term, plus(term, S(0)), times(term, S(1))]))
            if is_sound(chance, term, "xy"):
                right = is_nought(chance, term, "xy")
                seen[right] += 1
                self.check_nought(term, right)
        self.assertGreater(min(seen.values()), 30)

    def test_tables_of_size_one_would_not_do(self):
        paper = self.check_nought(read_term("x*y - y*x"), False)
        self.assertGreater(size_of(paper[1]), 1)

    def test_without_letters(self):
        self.assertEqual(nought(S(0)), ("nought", [[(1, 1)]]))
        self.assertEqual(nought(S(1, 2)), ("else", {}))

    def test_unsound(self):
        for text, place in (("~0", 0), ("x + ~(y - y)", 2), ("~(x - x) + ~0", 1), ("0*~(~0 - ~0)", 4)):
            for door in (nought, lambda one: nought_holds(one, ("nought", [])), lambda one: nought_holds(one, ("", {}))):
                with self.assertRaises(Unsound) as caught:
                    door(read_term(text))
                self.assertEqual((caught.exception.word, caught.exception.which, caught.exception.place),
                                 ("Unsound", 0, place), text)

    def test_holds_not(self):
        term = read_term("x*y - x*y")
        room = nought(term)[1]
        for paper in (("else", room), ("alike", room), ("", room), ("nought", []), ("nought", {}), ("nought", {"x": unit(1)}),
                      ("else", {"x": unit(2), "y": unit(2)}), ("else", {}), ("Nought", room), ("nought", room + room),
                      ("nought", [row[1:] for row in room]), ("nought", [row + [(0, 1)] for row in room])):
            self.assertIs(nought_holds(term, paper), False, paper)
        for at in range(len(room)):
            bent = copy.deepcopy(room)
            bent[at][0] = (bent[at][0][0] + 2, 1)
            self.assertIs(nought_holds(term, ("nought", bent)), plain_is_room(web(term), bent))

    def test_holds_not_of_tables(self):
        term = read_term("~(x - y) + z")
        one, two = whole([[1]]), whole([[2]])
        self.assertIs(nought_holds(term, ("else", {"x": one, "y": two, "z": two})), True)
        self.assertIs(nought_holds(term, ("else", {"x": one, "y": two, "z": two, "q": one})), True)
        for tables in ({"x": one, "y": two, "z": one}, {"x": one, "y": one, "z": one}, {"x": one, "y": two}, {},
                       {"x": one, "y": two, "z": unit(2)}, {"x": one, "y": two, "z": two, "q": unit(2)},
                       {"x": one, "y": two, "z": [[]]}, {"x": one, "y": two, "z": []}):
            self.assertIs(nought_holds(term, ("else", tables)), False, tables)
            self.assertIs(nought_holds(term, ("nought", tables)), False, tables)
            self.assertIs(nought_holds(term, ("sound", tables)), False, tables)


class Alike(Checks):
    def test_both_ways(self):
        for one, other in ALIKE:
            self.check_alike(read_term(one), read_term(other), True)
            self.check_alike(read_term(other), read_term(one), True)
        for one, other in UNLIKE:
            self.check_alike(read_term(one), read_term(other), False)
            self.check_alike(read_term(other), read_term(one), False)

    def test_tables_of_size_one_alone(self):
        paper = self.check_alike(times(X, Y), times(Y, X), False)
        self.assertGreater(size_of(paper[1]), 1)
        for one in (whole([[1]]), whole([[7]])):
            self.assertIs(alike_holds(times(X, Y), times(Y, X), ("unlike", {"x": one, "y": whole([[3]])})), False)

    def test_tables_of_size_one_and_two_alone(self):
        """The square of a commutator of tables of size 2 is so many times the unit."""
        square = read_term("(x*y - y*x)*(x*y - y*x)")
        paper = self.check_alike(times(square, Z), times(Z, square), False)
        self.assertGreater(size_of(paper[1]), 2)
        self.assertIs(commute(square, Z), False)
        trace = read_term("x + (x*y - y*x)*x*~(x*y - y*x)")
        self.assertIs(commute(trace, Z), False)
        self.assertGreater(size_of(self.check_alike(times(trace, X), times(X, trace), False)[1]), 2)

    def test_thrown(self):
        chance = random.Random(23)
        seen = {True: 0, False: 0}
        for _ in range(150):
            one = some_term(chance, chance.randint(1, 12), "xy", deep=chance.choice([1, 2]))
            other = chance.choice([lambda: some_term(chance, chance.randint(1, 5), "xy"), lambda: undo(undo(one)),
                                   lambda: less(plus(one, X), X), lambda: times(undo(Y), times(Y, one)),
                                   lambda: plus(one, less(times(X, Y), times(Y, X)))])()
            both = less(one, other)
            if is_sound(chance, both, "xy"):
                right = is_nought(chance, both, "xy")
                seen[right] += 1
                self.check_alike(one, other, right)
        self.assertGreater(min(seen.values()), 30)

    def test_eight_letters(self):
        one = read_term("a*b - ~(c*d)")
        other = read_term("e*f - ~(g*h)")
        paper = self.check_alike(one, other, False)
        self.assertEqual(sorted(paper[1]), list("abcdefgh"))

    def test_letters_of_both(self):
        self.assertEqual(sorted(alike(less(plus(X, Y), Y), plus(X, Z))[1]), ["x", "y", "z"])
        self.assertEqual(alike(less(plus(X, Y), Y), less(plus(X, Z), Z))[0], "alike")

    def test_without_letters(self):
        self.assertEqual(alike(S(1), S(2)), ("unlike", {}))
        self.assertEqual(alike(S(1), S(1))[0], "alike")

    def test_holds_not(self):
        one, other = read_term("~(x*y)"), read_term("~y*~x")
        room = alike(one, other)[1]
        difference = web_of(less(one, other))
        for paper in (("nought", room), ("unlike", room), ("", room), ("alike", []), ("alike", {}), ("alike", room + room),
                      ("unlike", {"x": unit(2), "y": unit(2)}), ("unlike", {}), ("alike", [row[1:] for row in room]),
                      ("alike", [row + [(0, 1)] for row in room])):
            self.assertIs(alike_holds(one, other, paper), False, paper)
        for at in range(len(room)):
            shorter = room[:at] + room[at + 1:]
            self.assertIs(alike_holds(one, other, ("alike", shorter)), plain_is_room(difference, shorter))
            for column in range(len(room[at])):
                bent = copy.deepcopy(room)
                bent[at][column] = (bent[at][column][0] - 1, 1)
                self.assertIs(alike_holds(one, other, ("alike", bent)), plain_is_room(difference, bent))
        self.assertIs(alike_holds(other, one, ("alike", alike(other, one)[1])), True)
        self.assertIs(alike_holds(one, one, ("alike", room)), False)

    def test_holds_not_of_tables(self):
        one, other = read_term("~x*y"), read_term("y*~x")
        a, b, c = whole([[1, 1], [0, 1]]), whole([[1, 0], [1, 1]]), whole([[1, 0], [0, 0]])
        self.assertIs(alike_holds(one, other, ("unlike", {"x": a, "y": b})), True)
        self.assertIs(alike_holds(one, other, ("unlike", {"x": a, "y": b, "z": c})), True)
        for tables in ({"x": a, "y": a}, {"x": a}, {"y": a}, {}, {"x": c, "y": a}, {"x": a, "y": unit(1)},
                       {"x": a, "y": b, "z": unit(3)}, {"x": unit(1), "y": unit(1)}, {"x": a, "y": b[:1]}, {"x": a, "y": []}):
            self.assertIs(alike_holds(one, other, ("unlike", tables)), False, tables)
        for word in ("alike", "else", "nought", "sound", "Unlike", ""):
            self.assertIs(alike_holds(one, other, (word, {"x": a, "y": b})), False)

    def test_the_room_of_the_one_less_the_other(self):
        """Handed in the other way about, a room holds just where it is one of the other less the one."""
        for one, other in ALIKE:
            one, other = read_term(one), read_term(other)
            room = alike(one, other)[1]
            turned = plain_is_room(web_of(less(other, one)), room)
            self.assertIs(alike_holds(other, one, ("alike", room)), turned)


class Commute(Checks):
    def test_both_ways(self):
        for one, other, right in (("x", "x", True), ("x", "y", False), ("x", "2", True), ("1/2", "y", True), ("0", "x", True),
                                  ("x", "~x", True), ("x*x", "x", True), ("x*y", "y*x", False), ("x*y", "~(x*y)", True),
                                  ("~(x + 1)", "x*x - 1", True), ("x + y", "~x + ~y", False), ("x - x", "y", True),
                                  ("x*~(x - 1)", "~x*(x + 2)", True), ("~x", "~y", False), ("~(x*y)", "~y*~x", True),
                                  ("~(x - ~x)", "~(x*x*x + 1/7)", True), ("a + b", "c + d", False), ("1", "1", True)):
            self.assertIs(commute(read_term(one), read_term(other)), right, (one, other))
            self.assertIs(commute(read_term(other), read_term(one)), right, (one, other))

    def test_all_of_one_letter_do(self):
        chance = random.Random(24)
        seen = 0
        for _ in range(60):
            one, other = (some_term(chance, chance.randint(1, 24), "x", figures=chance.choice([1, 12])) for _ in range(2))
            if is_sound(chance, times(one, other), "x"):
                self.assertIs(commute(one, other), True)
                seen += 1
        self.assertGreater(seen, 25)


class Refusals(Checks):
    DOORS = (alike, commute, lambda one, other: alike_holds(one, other, ("alike", [])),
             lambda one, other: alike_holds(one, other, ("unlike", {})), lambda one, other: alike_holds(one, other, ("", {})))
    BAD = [(plus(X, "y"), "form"), (undone(X, 24), "many"), (undone(X, 5), "deep"),
           (plus(plus(plus(X, Y), plus(Z, W)), ("letter", "v")), "letters")]

    def test_bad_terms(self):
        for term, flaw in self.BAD:
            for door in (nought, lambda one: nought_holds(one, ("nought", [])), lambda one: nought_holds(one, ("", {}))):
                with self.assertRaises(BadTerm) as caught:
                    door(term)
                self.assertEqual(caught.exception.flaw, flaw)
            for door in self.DOORS:
                for one, other in ((term, X), (X, term), (undo(S(0)), term), (term, undo(S(0)))):
                    with self.assertRaises(BadTerm) as caught:
                        door(one, other)
                    self.assertEqual(caught.exception.flaw, flaw)

    def test_the_first_bad_term_goes(self):
        for door in self.DOORS:
            for first, flaw in self.BAD:
                for second, other in self.BAD:
                    with self.assertRaises(BadTerm) as caught:
                        door(first, second)
                    self.assertEqual(caught.exception.flaw, flaw)

    def test_unsound(self):
        bad, worse = read_term("x*~(y - y)"), read_term("~~~0")
        for door in self.DOORS:
            for one, other, which, place in ((bad, X, 0, 2), (X, bad, 1, 2), (bad, worse, 0, 2), (worse, bad, 0, 2),
                                             (bad, bad, 0, 2), (undo(X), undo(undo(S(0))), 1, 1)):
                with self.assertRaises(Unsound) as caught:
                    door(one, other)
                self.assertEqual((caught.exception.word, caught.exception.which, caught.exception.place),
                                 ("Unsound", which, place))


class Bearable(Checks):
    GREATEST = ["~~~~x*(~~~~y*~~~~z)*~~~~x", "~(~(~(~(x*y - y*x) - x*y) - y*x)*x - 1/2)",
                "x*(x*(x*(x*(x*(x*(x*(x*(x*(x*(x*x))))))))))", "x*y*z*w*x*y*z*w*x*y*z*w",
                "~(~(~(~(x - y)*z - w)*x - y)*z - 999999999999/999999999998)*w + x", "~~~x*~~~y*~~~z*~~~w*~(x - y)"]

    def test_the_greatest(self):
        start = time.process_time()
        terms = [read_term(text) for text in self.GREATEST]
        for at, one in enumerate(terms):
            self.check_nought(one, False)
            for k, other in enumerate(terms):
                self.assertEqual(alike(one, other)[0], "alike" if k == at else "unlike")
                self.assertIs(commute(one, other), k == at)
            self.assertIs(alike_holds(one, one, alike(one, one)), True)
        self.assertLess(time.process_time() - start, 120)

    def test_great_shares(self):
        start = time.process_time()
        chance = random.Random(25)
        for _ in range(12):
            one, other = (some_term(chance, 11, "x", figures=12) for _ in range(2))
            if sound(times(one, other))[0] == "sound":
                paper = alike(times(one, other), times(other, one))
                self.assertEqual(paper[0], "alike")
                self.assertIs(alike_holds(times(one, other), times(other, one), paper), True)
        self.assertLess(time.process_time() - start, 120)


if __name__ == "__main__":
    unittest.main()
