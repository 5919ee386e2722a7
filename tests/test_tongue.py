"""Promise [8]: how reckonings are written and read."""

import random
import unittest

from helping import S, W, X, Y, Z, less, plus, some_term, times, undo, undone
from nevernought.errors import BadTerm, BadText
from nevernought.terms import flaw_of
from nevernought.tongue import read_term, term_text

HALF = S(-1, 2)

# Each reckoning with its one text.
WRITTEN = [
    (X, "x"), (S(0), "0"), (S(7), "7"), (S(1, 2), "1/2"), (S(-1), "-1"), (HALF, "-1/2"), (("letter", "abcdef"), "abcdef"),
    (S(999999999999), "999999999999"), (S(-999999999998, 999999999999), "-999999999998/999999999999"),
    (plus(X, Y), "x + y"), (less(X, Y), "x - y"), (times(X, Y), "x*y"), (undo(X), "~x"), (undo(undo(X)), "~~x"),
    # Sums in sums.
    (plus(plus(X, Y), Z), "x + y + z"), (plus(X, plus(Y, Z)), "x + (y + z)"),
    (plus(less(X, Y), Z), "x - y + z"), (plus(X, less(Y, Z)), "x + (y - z)"),
    (less(plus(X, Y), Z), "x + y - z"), (less(X, plus(Y, Z)), "x - (y + z)"),
    (less(less(X, Y), Z), "x - y - z"), (less(X, less(Y, Z)), "x - (y - z)"),
    # Products in sums and sums in products.
    (plus(times(X, Y), Z), "x*y + z"), (plus(X, times(Y, Z)), "x + y*z"),
    (less(times(X, Y), Z), "x*y - z"), (less(X, times(Y, Z)), "x - y*z"),
    (times(plus(X, Y), Z), "(x + y)*z"), (times(X, plus(Y, Z)), "x*(y + z)"),
    (times(less(X, Y), Z), "(x - y)*z"), (times(X, less(Y, Z)), "x*(y - z)"),
    (times(times(X, Y), Z), "x*y*z"), (times(X, times(Y, Z)), "x*(y*z)"),
    # Undoings.
    (undo(plus(X, Y)), "~(x + y)"), (undo(less(X, Y)), "~(x - y)"), (undo(times(X, Y)), "~(x*y)"),
    (plus(undo(X), Y), "~x + y"), (plus(X, undo(Y)), "x + ~y"), (less(undo(X), Y), "~x - y"),
    (less(X, undo(Y)), "x - ~y"), (times(undo(X), Y), "~x*y"), (times(X, undo(Y)), "x*~y"),
    (times(undo(plus(X, Y)), undo(times(X, Y))), "~(x + y)*~(x*y)"), (undo(undo(plus(X, Y))), "~~(x + y)"),
    (undo(times(undo(X), undo(Y))), "~(~x*~y)"), (undo(S(1, 2)), "~1/2"), (undo(S(0)), "~0"),
    # Shares below nought first in the text.
    (plus(S(-1), X), "-1 + x"), (times(S(-1), X), "-1*x"), (less(times(times(S(-1), X), Y), Z), "-1*x*y - z"),
    # Behind an opening bracket.
    (undo(plus(S(-1), X)), "~(-1 + x)"), (times(X, plus(HALF, Y)), "x*(-1/2 + y)"),
    (less(X, plus(times(S(-1), X), Y)), "x - (-1*x + y)"), (times(plus(S(-1), X), plus(S(-2), Y)), "(-1 + x)*(-2 + y)"),
    (undo(times(S(-1), X)), "~(-1*x)"),
    # Elsewhere.
    (undo(S(-1)), "~(-1)"), (plus(X, S(-1)), "x + (-1)"), (less(X, S(-1)), "x - (-1)"), (times(X, HALF), "x*(-1/2)"),
    (times(S(-1), S(-1)), "-1*(-1)"), (plus(X, times(S(-1), Y)), "x + (-1)*y"), (undo(undo(S(-1))), "~~(-1)"),
    (times(undo(S(-1)), X), "~(-1)*x"), (plus(X, plus(Y, S(-1))), "x + (y + (-1))"),
    (less(times(undo(plus(X, S(1))), Y), times(HALF, undo(undo(X)))), "~(x + 1)*y - (-1/2)*~~x"),
]

# Texts that read well but are not how they are written.
ALSO_READ = [
    (" x", X), ("x ", X), ("   x   ", X), ("x+y", plus(X, Y)), ("x  +  y", plus(X, Y)), ("x-y", less(X, Y)),
    ("x * y", times(X, Y)), ("~ x", undo(X)), (" ~ ~ x", undo(undo(X))), ("( x )", X), ("(x)", X), ("((x))", X),
    ("(x*y)", times(X, Y)), ("(x*y)*z", times(times(X, Y), Z)), ("(x + y) + z", plus(plus(X, Y), Z)),
    ("~(x)", undo(X)), ("~(~x)", undo(undo(X))), ("(~x)*y", times(undo(X), Y)), ("(-1)", S(-1)), (" -1", S(-1)),
    ("( -1 )", S(-1)), ("((-1/2))", HALF), ("(-1) + x", plus(S(-1), X)), ("x -1", less(X, S(1))),
    ("x-1", less(X, S(1))), ("x -1/2", less(X, S(1, 2))), ("-1-1", less(S(-1), S(1))), ("(1/2)*x", times(S(1, 2), X)),
    ("x\u002b(y)", plus(X, Y)), ("(((((((((((x)))))))))))", X), ("((((((((((((x))))))))))))", X),
    ("(" * 12 + "-1" + ")" * 12, S(-1)), ("(x)*" + "(" * 12 + "y" + ")" * 12, times(X, Y)),
    ("(" * 11 + "(x) + (y)" + ")" * 11, plus(X, Y)), (" " * 3990 + "x + y", plus(X, Y)),
]

# Texts that can't be read, each with the place.
REFUSED = [
    ("", 0), (" ", 1), ("    ", 4), ("x +", 3), ("x + ", 4), ("x *", 3), ("~", 1), ("~ ", 2), ("(", 1), ("(x", 2),
    ("(x ", 3), ("((x)", 4), ("x - (y", 6), ("(-1", 3), ("x*(", 3),
    # Signs that can't stand where a reckoning is wanted.
    (")", 0), ("()", 1), ("( )", 2), ("+", 0), ("+x", 0), ("*x", 0), ("x + + y", 4), ("x**y", 2), ("x + *y", 4),
    ("x*)", 2), ("~+x", 1), ("~)", 1), ("/", 0), ("/2", 0), ("x*/2", 2), ("X", 0), ("x*Y", 2), ("_", 0), (".5", 0),
    ("\nx", 0), ("x*\ny", 2), ("x + ,", 4), ("#", 0), ("~^", 1), ("(!)", 1), ("[x]", 0),
    # Signs that can't stand behind a reckoning.
    ("x)", 1), ("(x))", 3), ("x y", 2), ("x 1", 2), ("1 x", 2), ("1x", 1), ("x1", 1), ("x(y)", 1), ("(x)(y)", 3),
    ("(x)y", 3), ("x~y", 1), ("x ~ y", 2), ("xY", 1), ("x_", 1), ("x/y", 1), ("x/2", 1), ("1 /2", 2), ("1 / 2", 2),
    ("x\n", 1), ("x + y\n", 5), ("x=y", 1), ("x, y", 1), ("x.", 1), ("12 34", 3), ("ab cd", 3), ("1/2 1", 4),
    ("(x) 1", 4), ("~x~", 2), ("x++y", 2), ("x+)", 2), ("(x+)", 3), ("x])", 1),
    # A minus at each place.
    ("-", 0), (" -", 1), ("- 1", 0), ("-x", 0), ("- x", 0), ("-(1)", 0), ("-~1", 0), ("--1", 0), ("-/2", 0), ("-)", 0),
    ("(-", 1), ("(- 1)", 1), ("(-x)", 1), ("( -x)", 2), ("(--1)", 1), ("x - -1", 4), ("x*-1", 2), ("~-1", 1),
    ("x + -1", 4), ("x--1", 2), ("x - - 1", 4), ("x*-y", 2), ("~-x", 1), ("~ -1", 2), ("(x*-1)", 3), ("(~-1)", 2),
    ("x -", 3), ("x-", 2), ("x*-", 2), ("-1*-1", 3), ("-1 - -1", 5), ("(-1)*-1", 5), ("~(-1)*(x - -2)", 11),
    # Runs that are no letter and no share.
    ("abcdefg", 0), ("x + abcdefg", 4), ("abcdefghijkl", 0), ("~abcdefg", 1), ("(abcdefg", 1), ("x*abcdefg)", 2),
    ("01", 0), ("00", 0), ("-0", 0), ("-01", 0), ("(-0)", 1), ("2/4", 0), ("4/2", 0), ("1/1", 0), ("0/1", 0), ("0/2", 0),
    ("1/0", 0), ("1/", 0), ("1//2", 0), ("1/2/3", 0), ("/1/2", 0), ("-2/4", 0), ("x + 2/4", 4), ("x*(-2/4)", 3),
    ("1000000000000", 0), ("1/1000000000000", 0), ("-1000000000000", 0), ("x - 1000000000000", 4), ("1/02", 0),
    ("~1/", 1), ("1/x", 0), ("1/ 2", 0),
    # The thirteenth bracket.
    ("(" * 13 + "x" + ")" * 13, 12), ("(" * 13, 12), ("(" * 14 + "x", 12), ("x + " + "(" * 13 + "y", 16),
    ("(" * 12 + "x*(y)" + ")" * 12, 14), (" ( " * 13 + "x", 37), ("(" * 12 + "~(x" + ")" * 13, 13),
    ("(" * 12 + "x" + ")" * 11, 24), ("(" * 12 + "x" + ")" * 13, 25), ("(" * 12, 12),
    # The first wrong sign counts.
    ("x + ) abcdefg", 4), ("abcdefg )", 0), ("01 + )", 0), ("x ) 01", 2), ("(x y", 3),
]


def spaced(text, chance):
    """The text with blanks thrown wherever one stands or may stand: not within runs, not behind a share's minus."""
    told = ""
    for at, sign in enumerate(text):
        run = "abcdefghijklmnopqrstuvwxyz0123456789/"
        within = at > 0 and sign in run and (text[at - 1] in run or (text[at - 1] == "-" and text[at - 2:at - 1] != " "))
        told += sign if within else " " * chance.choice([0, 0, 1, 3]) + sign
    return told + " " * chance.choice([0, 2])


class Writing(unittest.TestCase):
    def test_written(self):
        for term, text in WRITTEN:
            self.assertEqual(term_text(term), text)

    def test_brackets_are_needed(self):
        """No pair of brackets can be left out, but for those round a share below nought."""
        chance = random.Random(2)
        for _ in range(300):
            term = some_term(chance, chance.randint(3, 24), "xyzw")
            text = term_text(term)
            for start, sign in enumerate(text):
                if sign == "(" and text[start + 1] != "-":
                    last = self.closing(text, start)
                    bare = text[:start] + text[start + 1:last] + text[last + 1:]
                    self.assertNotEqual(read_term(bare), term, text)

    def closing(self, text, start):
        deep = 0
        for at in range(start, len(text)):
            deep += (text[at] == "(") - (text[at] == ")")
            if deep == 0:
                return at

    def test_bad_terms(self):
        for term, flaw in ((plus(X, "y"), "form"), ("x", "form"), (undone(X, 24), "many"), (undone(X, 5), "deep"),
                           (plus(plus(plus(X, Y), plus(Z, W)), ("letter", "v")), "letters")):
            with self.assertRaises(BadTerm) as caught:
                term_text(term)
            self.assertEqual(caught.exception.flaw, flaw)


class ReadBack(unittest.TestCase):
    def test_written(self):
        for term, text in WRITTEN:
            self.assertEqual(read_term(text), term)

    def test_thrown(self):
        chance = random.Random(3)
        for _ in range(600):
            term = some_term(chance, chance.randint(1, 24), ["x", "y", "abcdef", "zz"], figures=chance.choice([1, 12]))
            self.assertEqual(read_term(term_text(term)), term)
            self.assertEqual(read_term(spaced(term_text(term), chance)), term)

    def test_every_sign_within_every_other(self):
        inner = [X, S(2), HALF, plus(X, Y), less(X, Y), times(X, Y), undo(X), plus(HALF, X), times(HALF, X)]
        outer = [plus, less, times, lambda one, other: undo(one)]
        for one in inner:
            for other in inner:
                for sign in outer:
                    term = sign(one, other)
                    for over in outer:
                        for whole in (over(term, other), over(other, term)):
                            self.assertEqual(read_term(term_text(whole)), whole)

    def test_most_brackets_that_are_needed(self):
        term = S(-1)
        for _ in range(11):
            term = less(X, term)
        text = "x - (" * 10 + "x - (-1)" + ")" * 10
        self.assertEqual(term_text(term), text)
        self.assertEqual(read_term(text), term)


class Reading(unittest.TestCase):
    def test_also_read(self):
        for text, term in ALSO_READ:
            self.assertEqual(read_term(text), term, text)

    def test_refused(self):
        for text, at in REFUSED:
            with self.assertRaises(BadText, msg=text) as caught:
                read_term(text)
            self.assertEqual((caught.exception.word, caught.exception.at), ("BadText", at), text)

    def test_every_single_sign(self):
        for code in [10, *range(32, 127)]:
            sign = chr(code)
            if sign.islower() or sign.isdigit():
                self.assertIn(read_term(sign), (("letter", sign), ("share", (ord(sign) - 48, 1))))
            else:
                with self.assertRaises(BadText) as caught:
                    read_term(sign)
                self.assertEqual(caught.exception.at, 1 if sign in " (~" else 0, sign)
            if sign not in "+-*) abcdefghijklmnopqrstuvwxyz":
                with self.assertRaises(BadText) as caught:
                    read_term("(x" + sign + "y)")
                self.assertEqual(caught.exception.at, 2, sign)

    def test_twelve_figures(self):
        self.assertEqual(read_term("999999999999/1000000007"), S(999999999999, 1000000007))
        self.assertEqual(read_term("-1/999999999999"), S(-1, 999999999999))

    def test_six_letters(self):
        self.assertEqual(read_term("abcdef"), ("letter", "abcdef"))


class TooGreat(unittest.TestCase):
    def refused(self, text, flaw):
        with self.assertRaises(BadTerm) as caught:
            read_term(text)
        self.assertEqual(caught.exception.flaw, flaw)

    def test_many(self):
        self.assertIsNone(flaw_of(read_term(" + ".join(["x"] * 12))))
        self.assertIsNone(flaw_of(read_term("~(" + " + ".join(["x"] * 12) + ")")))
        self.refused(" + ".join(["x"] * 13), "many")
        self.refused("+".join(["x"] * 2000), "many")
        self.refused("*".join(["x"] * 2000), "many")
        self.refused("~" * 3999 + "x", "many")
        self.refused("~" * 24 + "x", "many")

    def test_letters(self):
        self.assertIsNone(flaw_of(read_term("a + b + c + d + a")))
        self.refused("a + b + c + d + e", "letters")

    def test_deep(self):
        self.assertEqual(read_term("~~~~x"), undone(X, 4))
        self.refused("~~~~~x", "deep")
        self.refused("~" * 23 + "x", "deep")
        self.refused("~(~(~(~(~x + 1) + 1) + 1) + 1)", "deep")

    def test_order(self):
        self.refused("~~~~~(a + b + c + d + e)", "letters")
        self.refused("~~~~~(a + b + c + d + e)" + " + x" * 10, "many")

    def test_text_ahead_of_term(self):
        for text in ("+".join(["x"] * 1999) + "+", "~" * 3999, "a + b + c + d + e)", "~~~~~x y"):
            self.assertRaises(BadText, read_term, text)


if __name__ == "__main__":
    unittest.main()
