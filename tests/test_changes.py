"""Promise [14]: reckonings put, nudged and turned."""

import inspect
import random
import unittest

from helping import (PRIME, Residues, S, W, X, Y, Z, less, plain_product, plain_worth, plus, some_term, times, undo,
                     undone)
from nevernought.alike import alike
from nevernought.changes import nudged, put, turned
from nevernought.errors import BadTerm
from nevernought.terms import flaw_of, letters, parts
from nevernought.tongue import read_term, term_text

V = ("letter", "v")
BAD = [(plus(X, "y"), "form"), (undone(X, 24), "many"), (plus(plus(plus(X, Y), plus(Z, W)), V), "letters"),
       (undone(X, 5), "deep")]


def thrown(chance, size):
    return [[chance.randrange(PRIME) for _ in range(size)] for _ in range(size)]


class Checks(unittest.TestCase):
    def flaw(self, door, *handed, **named):
        with self.assertRaises(BadTerm) as caught:
            door(*handed, **named)
        self.assertEqual(caught.exception.word, "BadTerm")
        return caught.exception.flaw


class Put(Checks):
    def test_by_hand(self):
        for text, by, right in (
                ("x", {}, "x"), ("x + y", {}, "x + y"), ("x", {"x": "y"}, "y"), ("1/2", {"x": "y"}, "1/2"),
                ("x*y", {"x": "y", "y": "x"}, "y*x"), ("~(x - y)*x", {"x": "x + 1"}, "~(x + 1 - y)*(x + 1)"),
                ("x*y*z", {"x": "y", "y": "z", "z": "x"}, "y*z*x"), ("x", {"y": "z"}, "x"), ("x - x", {"x": "0"}, "0 - 0"),
                ("~x", {"x": "~x"}, "~~x"), ("x*y", {"x": "~(y + w)", "q": "1"}, "~(y + w)*y"), ("xx + x", {"x": "y"}, "xx + y"),
                ("x*x", {"x": "x*x"}, "x*x*(x*x)"), ("a + b", {"a": "b", "b": "-1/2"}, "b + (-1/2)")):
            told = put(read_term(text), {letter: read_term(by[letter]) for letter in by})
            self.assertEqual(told, read_term(right))
            self.assertEqual(term_text(told), right)

    def test_all_at_once(self):
        self.assertEqual(put(less(X, Y), {"x": Y, "y": X}), less(Y, X))
        self.assertEqual(put(less(X, Y), {"x": times(X, Y), "y": X}), less(times(X, Y), X))

    def test_what_comes_may_be_unsound(self):
        self.assertEqual(put(undo(less(X, Y)), {"y": X}), undo(less(X, X)))
        self.assertEqual(put(undo(X), {"x": undo(S(0))}), undo(undo(S(0))))

    def test_the_worth_of_the_worths(self):
        chance = random.Random(50)
        seen = 0
        for _ in range(80):
            term = some_term(chance, chance.randint(1, 8), "xy")
            by = {letter: some_term(chance, chance.randint(1, 5), "xz") for letter in "xyw"[:chance.randint(0, 3)]}
            made = put_plainly(term, by)
            if flaw_of(made) is not None:
                self.assertEqual(self.flaw(put, term, by), flaw_of(made))
                continue
            self.assertEqual(put(term, by), made)
            tables = {letter: thrown(chance, 2) for letter in "xyzw"}
            worths = {letter: plain_worth(by[letter], tables, 2, Residues) for letter in by}
            if None not in worths.values():
                seen += 1
                self.assertEqual(plain_worth(made, tables, 2, Residues), plain_worth(term, {**tables, **worths}, 2, Residues))
        self.assertGreater(seen, 25)

    def test_bad_terms_of_what_is_handed_in(self):
        for term, flaw in BAD:
            self.assertEqual(self.flaw(put, term, {}), flaw)
            self.assertEqual(self.flaw(put, term, {"x": X}), flaw)
            self.assertEqual(self.flaw(put, X, {"x": term}), flaw)
            self.assertEqual(self.flaw(put, X, {"y": term}), flaw)
            self.assertEqual(self.flaw(put, S(1), {"z": X, "y": term}), flaw)

    def test_which_of_them_goes(self):
        for first, flaw in BAD:
            for second, other in BAD:
                self.assertEqual(self.flaw(put, first, {"x": second}), flaw)
                self.assertEqual(self.flaw(put, X, {"a": first, "b": second}), flaw)
                self.assertEqual(self.flaw(put, X, {"b": second, "a": first}), flaw)
                self.assertEqual(self.flaw(put, X, {"xa": second, "x": first}), flaw)

    def test_bad_terms_of_what_comes(self):
        twelve = read_term("x*x*x*x*x*x + 1/2")
        self.assertEqual(parts(twelve), 13)
        for term, by, flaw in ((times(X, X), {"x": twelve}, "many"), (undone(X, 3), {"x": undone(X, 2)}, "deep"),
                               (plus(X, plus(Y, Z)), {"x": plus(X, plus(W, V))}, "letters"),
                               (undone(plus(plus(X, Y), plus(Z, W)), 4), {"x": undo(plus(V, X))}, "letters"),
                               (undone(times(X, twelve), 4), {"x": undo(twelve)}, "many")):
            self.assertEqual(self.flaw(put, term, by), flaw)
        self.assertEqual(parts(put(times(X, Y), {"x": twelve, "y": read_term("x*x*x*x*x")})), 23)
        self.assertEqual(put(plus(X, plus(Y, Z)), {"x": plus(W, Y)}), plus(plus(W, Y), plus(Y, Z)))
        self.assertEqual(put(undone(X, 2), {"x": undone(X, 2)}), undone(X, 4))

    def test_a_letter_may_make_room_for_another(self):
        four = plus(plus(X, Y), plus(Z, W))
        self.assertEqual(letters(put(four, {"x": V})), ["v", "w", "y", "z"])
        self.assertEqual(self.flaw(put, four, {"x": plus(X, V)}), "letters")


def put_plainly(term, by):
    if term[0] == "letter":
        return by[term[1]] if term[1] in by else term
    if term[0] == "share":
        return term
    return tuple([term[0]] + [put_plainly(thing, by) for thing in term[1:]])


class Nudged(Checks):
    NOTHING, ONE = S(0), S(1)

    def test_of_each_sign(self):
        for term, right in ((S(1, 2), self.NOTHING), (X, self.ONE), (Y, self.NOTHING), (plus(X, Y), plus(self.ONE, self.NOTHING)),
                            (less(Y, X), less(self.NOTHING, self.ONE)),
                            (times(X, Y), plus(times(self.ONE, Y), times(X, self.NOTHING))),
                            (undo(X), less(S(0), times(undo(X), times(self.ONE, undo(X)))))):
            self.assertEqual(nudged(term, "x"), right)
            self.assertEqual(nudged(term, "x", by=S(1)), right)

    def test_texts(self):
        for text, right in (("x*x", "y*x + x*y"), ("~x", "0 - ~x*(y*~x)"), ("x*x*x", "(y*x + x*y)*x + x*x*y"), ("z", "0"),
                            ("~(x - z)", "0 - ~(x - z)*((y - 0)*~(x - z))"), ("x*~x", "y*~x + x*(0 - ~x*(y*~x))"), ("y", "0"),
                            ("~~x", "0 - ~~x*((0 - ~x*(y*~x))*~~x)"), ("7", "0"), ("x - 1/2*z", "y - (0*z + 1/2*0)")):
            self.assertEqual(term_text(nudged(read_term(text), "x", by=Y)), right)

    def test_at_a_letter_that_is_not_there(self):
        self.assertEqual(nudged(times(X, Y), "z"), plus(times(S(0), Y), times(X, S(0))))
        self.assertEqual(nudged(X, "xx"), S(0))
        self.assertEqual(nudged(undo(X), "z", by=W), less(S(0), times(undo(X), times(S(0), undo(X)))))

    def test_by_is_handed_in_by_its_name(self):
        self.assertEqual(nudged(X, "x", by=undo(Y)), undo(Y))
        self.assertEqual(nudged(by=Z, letter="x", term=plus(X, X)), plus(Z, Z))
        self.assertRaises(TypeError, nudged, X, "x", Y)
        told = inspect.signature(nudged).parameters["by"]
        self.assertEqual((told.default, told.kind), (("share", (1, 1)), told.KEYWORD_ONLY))

    def test_the_worth_at_tables_that_are_nudged(self):
        """At x and, twice as great, with y above its corner, the worth has the nudged one above its corner."""
        chance = random.Random(51)
        seen = 0
        for _ in range(120):
            term = some_term(chance, chance.randint(1, 9), "xz")
            made = plainly_nudged(term)
            if flaw_of(made) is not None:
                self.assertEqual(self.flaw(nudged, term, "x", by=Y), flaw_of(made))
                continue
            self.assertEqual(nudged(term, "x", by=Y), made)
            tables = {letter: thrown(chance, 2) for letter in "xyz"}
            nothing = [[0, 0], [0, 0]]
            doubled = {letter: [row + beside for row, beside in zip(tables[letter], tables["y"] if letter == "x" else nothing)]
                       + [[0, 0] + row for row in tables[letter]] for letter in "xz"}
            worth = plain_worth(term, doubled, 4, Residues)
            if worth is not None:
                seen += 1
                self.assertEqual(plain_worth(made, tables, 2, Residues), [row[2:] for row in worth[:2]])
        self.assertGreater(seen, 25)

    def test_bad_terms_of_what_is_handed_in(self):
        for term, flaw in BAD:
            self.assertEqual(self.flaw(nudged, term, "x"), flaw)
            self.assertEqual(self.flaw(nudged, X, "x", by=term), flaw)
            self.assertEqual(self.flaw(nudged, X, "y", by=term), flaw)
            for other, behind in BAD:
                self.assertEqual(self.flaw(nudged, term, "x", by=other), flaw)

    def test_bad_terms_of_what_comes(self):
        four = plus(plus(X, Y), plus(Z, W))
        for term, by, flaw in ((read_term("x*x*x*x*x"), S(1), "many"), (plus(X, Y), four, None), (times(X, four), V, "letters"),
                               (undone(X, 4), S(1), "many"), (undo(X), undone(Y, 4), None), (undo(undo(X)), Y, None),
                               (times(X, undo(X)), undone(Y, 4), None), (read_term("x*x*x"), S(1), None),
                               (read_term("~~~x"), S(1), "many"), (read_term("x*x*x"), undo(times(X, X)), None),
                               (read_term("x*x*x"), undone(times(X, X), 2), "many"), (read_term("x*x*x*x"), S(1), "many"),
                               (undone(X, 2), undone(Y, 4), None), (undo(plus(X, S(1))), undo(undo(X)), None)):
            if flaw is None:
                self.assertIsNone(flaw_of(nudged(term, "x", by=by)))
            else:
                self.assertEqual(self.flaw(nudged, term, "x", by=by), flaw)

    def test_sums_of_many(self):
        self.assertEqual(parts(nudged(read_term("x + x + x + x + x + x + x + x + x + x + x + x"), "x")), 23)
        self.assertEqual(self.flaw(nudged, read_term("x + x + x + x"), "x", by=undone(times(X, X), 4)), "many")


def plainly_nudged(term):
    """Nudged by y at x."""
    word, *things = term
    if word in ("share", "letter"):
        return Y if term == X else S(0)
    if word in ("plus", "less"):
        return (word, plainly_nudged(things[0]), plainly_nudged(things[1]))
    if word == "times":
        return plus(times(plainly_nudged(things[0]), things[1]), times(things[0], plainly_nudged(things[1])))
    return less(S(0), times(term, times(plainly_nudged(things[0]), term)))


class Turned(Checks):
    def test_by_hand(self):
        for text, right in (("x", "x"), ("-1/2", "-1/2"), ("x*y", "y*x"), ("x*y*z", "z*(y*x)"), ("x*(y*z)", "z*y*x"),
                            ("x + y*z", "x + z*y"), ("x - y", "x - y"), ("~(x*y)", "~(y*x)"), ("~x*(y + z*w)", "(y + w*z)*~x"),
                            ("x*y - y*x", "y*x - x*y"), ("~~(x*~(y*z))", "~~(~(z*y)*x)")):
            self.assertEqual(term_text(turned(read_term(text))), right)

    def test_turned_twice(self):
        chance = random.Random(52)
        for _ in range(100):
            term = some_term(chance, chance.randint(1, 24), "xyzw")
            self.assertEqual(turned(turned(term)), term)
            self.assertEqual(parts(turned(term)), parts(term))

    def test_the_worth_at_tables_that_are_turned(self):
        chance = random.Random(53)
        for _ in range(60):
            term = some_term(chance, chance.randint(1, 12), "xy")
            tables = {letter: thrown(chance, 2) for letter in "xy"}
            worth = plain_worth(term, tables, 2, Residues)
            over = {letter: [list(column) for column in zip(*tables[letter])] for letter in tables}
            told = plain_worth(turned(term), over, 2, Residues)
            self.assertEqual(told, worth and [list(column) for column in zip(*worth)])

    def test_turned_products_are_products_the_other_way(self):
        one, other = read_term("x*y + 1"), read_term("~y*x")
        self.assertEqual(alike(turned(times(one, other)), times(turned(other), turned(one)))[0], "alike")
        self.assertEqual(plain_product([[2]], [[3]]), [[6]])

    def test_bad_terms(self):
        for term, flaw in BAD:
            self.assertEqual(self.flaw(turned, term), flaw)


if __name__ == "__main__":
    unittest.main()
