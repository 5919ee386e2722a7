"""Promises [18] and [19]: a book of lines and claims, its deeds and its steps."""

import random
import time
import unittest

from helping import S, X, Y, less, plain_is_room, plus, times, undo, undone
from nevernought import book as home
from nevernought.alike import alike, alike_holds
from nevernought.book import Book
from nevernought.errors import (BadDeed, BadName, BadTerm, BadText, BadWord, Breaks, Full, InUse, Missing, NeverError, NoName,
                                NothingLeft, NotSo, Ring, Stopped, Taken, Unsound)
from nevernought.tongue import read_term, term_text
from nevernought.webs import web_of

TWELVE = [f"L{letter}" for letter in "abcdefghijkl"]
EIGHT = [f"C{letter}" for letter in "abcdefgh"]


def made(*deeds):
    book = Book()
    for deed in deeds:
        book.do(deed)
    return book


def lines(**texts):
    """A book of these lines, in this order."""
    return made(*[("line", name, texts[name]) for name in texts])


def seen(book):
    """All that can be asked of a book."""
    return (book.names(), [(book.text_of(name), book.term_of(name), book.leaning(name)) for name in book.names()],
            book.claims(), [(book.claim(name), book.paper(name)) for name in book.claims()], book.steps(), len(book), repr(book))


class Checks(unittest.TestCase):
    def refused(self, book, kind, deed, **fields):
        """A deed is refused with this kind and these fields, and changes nothing."""
        before = seen(book)
        for _ in range(2):
            with self.assertRaises(kind) as caught:
                book.do(deed)
            self.assertEqual(caught.exception.word, kind.__name__)
            self.assertEqual({field: getattr(caught.exception, field) for field in fields}, fields)
        with self.assertRaises(Stopped) as caught:
            book.together([deed])
        self.assertEqual((caught.exception.at, caught.exception.why), (0, kind.__name__))
        self.assertEqual(seen(book), before)


class Lines(Checks):
    def test_new_ones(self):
        book = lines(A="x + 1", B="A*A", C="~(B - A)")
        self.assertEqual(book.names(), ["A", "B", "C"])
        self.assertEqual([book.text_of(name) for name in book.names()], ["x + 1", "A*A", "~(B - A)"])
        self.assertEqual([term_text(book.term_of(name)) for name in book.names()],
                         ["x + 1", "(x + 1)*(x + 1)", "~((x + 1)*(x + 1) - (x + 1))"])
        self.assertEqual([book.leaning(name) for name in book.names()], [["B", "C"], ["C"], []])

    def test_texts_are_told_as_written(self):
        for text, right in ((" x ", "x"), ("((x))", "x"), ("A*( A*A )", "A*(A*A)"), ("(A*A)*A", "A*A*A"), ("A-(A-A)", "A - (A - A)"),
                            ("~ ( ~A )", "~~A"), ("A + (-1/2)", "A + (-1/2)"), ("(-1/2)+A", "-1/2 + A"), ("~(A)*x", "~A*x"),
                            ("~(A*x)", "~(A*x)"), ("A+x*Abcdef", "A + x*Abcdef"), ("(A)-Abcdef", "A - Abcdef"), ("2", "2")):
            book = lines(Abcdef="y", A="z", B=text)
            self.assertEqual(book.text_of("B"), right)
            self.assertEqual(lines(Abcdef="y", A="z", B=right).text_of("B"), right)

    def test_the_reckonings_of_names_stand_in_their_places(self):
        book = lines(A="x - y", B="A - A", C="~(1 + A)*B", D="A*x")
        self.assertEqual(book.term_of("B"), less(less(X, Y), less(X, Y)))
        self.assertEqual(book.term_of("C"), times(undo(plus(S(1), less(X, Y))), book.term_of("B")))
        self.assertEqual(book.term_of("D"), times(less(X, Y), X))

    def test_told_anew(self):
        book = lines(A="x", B="A*y", C="B + A", D="y")
        book.do(("line", "A", "y - 1"))
        self.assertEqual([term_text(book.term_of(name)) for name in "ABCD"], ["y - 1", "(y - 1)*y", "(y - 1)*y + (y - 1)", "y"])
        self.assertEqual([book.text_of(name) for name in "ABCD"], ["y - 1", "A*y", "B + A", "y"])
        book.do(("line", "A", "D*D"))
        self.assertEqual(term_text(book.term_of("B")), "y*y*y")
        self.assertEqual((book.leaning("D"), book.leaning("A")), (["A", "B", "C"], ["B", "C"]))
        book.do(("line", "B", "1"))
        self.assertEqual((book.leaning("D"), book.leaning("A"), book.leaning("B")), (["A", "C"], ["C"], ["C"]))
        self.assertEqual(term_text(book.term_of("C")), "1 + y*y")

    def test_told_anew_through_which_others_lean(self):
        book = lines(A="x", B="A + 1", C="B*B", D="~C", E="z")
        book.do(("line", "B", "E - A"))
        self.assertEqual(term_text(book.term_of("D")), "~((z - x)*(z - x))")
        self.assertEqual((book.leaning("A"), book.leaning("E")), (["B", "C", "D"], ["B", "C", "D"]))

    def test_letters_are_no_names(self):
        book = lines(A="a + x", Bb="A + bb")
        self.assertEqual(term_text(book.term_of("Bb")), "a + x + bb")

    def test_bad_names(self):
        book = lines(A="x")
        for name in ("", "a", "AB", "Abcdefg", "A1", "1", " A", "A ", "Ab C", "aA", "A-", "~", "A\n", "ABC", "x", "_A", "A" + "b" * 6):
            self.refused(book, BadName, ("line", name, "x"), name=name)
            self.refused(book, BadName, ("claim", name, "alike", "A", "A"), name=name)
            self.refused(book, BadName, ("line", name, "*"), name=name)
        for name in ("Z", "Ab", "Abcdef", "Zzzzzz"):
            book.do(("line", name, "x"))
        self.assertEqual(book.names(), ["A", "Ab", "Abcdef", "Z", "Zzzzzz"])

    def test_taken_by_a_claim(self):
        book = made(("line", "A", "x"), ("claim", "B", "alike", "A", "A"))
        self.refused(book, Taken, ("line", "B", "x"), name="B")
        self.refused(book, Taken, ("line", "B", "*"), name="B")
        self.refused(book, Taken, ("line", "B", "Nope"), name="B")

    def test_bad_texts(self):
        book = lines(A="x", Ab="y")
        for text, at in (("", 0), (" ", 1), ("x y", 2), ("A A", 2), ("AB", 1), ("A b", 2), ("aB", 1), ("Abcdefg", 0), ("x + Abcdefgh", 4),
                         ("A1", 1), ("-A", 0), ("A*-1", 2), ("~-1", 1), ("A - -1", 4), ("(A", 2), ("A)", 1), ("A + ", 4), ("2A", 1),
                         ("A~A", 1), ("A B", 2), ("1/0", 0), ("x + 2/4", 4), ("A.", 1), ("a" * 7, 0), ("- 1", 0), ("A\nA", 1), ("\n", 0),
                         ("(" * 13 + "A" + ")" * 13, 12), ("1234567890123", 0), ("A/2", 1), ("A2/3", 1), ("Nope Nope", 5)):
            self.refused(book, BadText, ("line", "B", text), at=at)
            self.refused(book, BadText, ("line", "A", text), at=at)
        book.do(("line", "B", "(" * 12 + "A" + ")" * 12))
        self.assertEqual(book.text_of("B"), "A")

    def test_no_names(self):
        book = made(("line", "A", "x"), ("claim", "K", "alike", "A", "A"))
        for text, name in (("B", "B"), ("A + B", "B"), ("C*B", "C"), ("A*~(Z - C) + B", "Z"), ("K", "K"), ("N + N", "N"), ("K + B", "K"),
                           ("Aa", "Aa"), ("~(x*(A - Ab))", "Ab")):
            self.refused(book, NoName, ("line", "N", text), name=name)
            self.refused(book, NoName, ("line", "A", text), name=name)
        self.refused(book, NoName, ("line", "N", "A + N"), name="N")
        self.refused(book, NoName, ("line", "N", "~0*M"), name="M")
        self.assertRaises(Missing, book.do, ("line", "N", "M"))

    def test_rings(self):
        book = lines(A="x", B="A", C="B + x", D="C*C")
        for name, text in (("A", "A"), ("A", "x + A"), ("A", "B"), ("A", "D"), ("B", "C - C"), ("B", "A + D"), ("C", "D"), ("D", "D*D")):
            self.refused(book, Ring, ("line", name, text), name=name)
        self.refused(book, NoName, ("line", "A", "D + Q"), name="Q")
        self.refused(book, Ring, ("line", "A", "D + ~0"), name="A")
        book.do(("line", "D", "x"))
        book.do(("line", "A", "D"))
        self.refused(book, Ring, ("line", "D", "C"), name="D")

    def test_twelve_lines(self):
        self.assertEqual(home.MOST_LINES, 12)
        book = made(*[("line", name, "x") for name in TWELVE])
        self.refused(book, Full, ("line", "M", "x"), most=12)
        self.refused(book, Full, ("line", "M", "~0"), most=12)
        self.refused(book, Full, ("line", "M", "x + x + x + x + x + x + x + x + x + x + x + x + x"), most=12)
        self.refused(book, BadName, ("line", "m", "x"), name="m")
        self.refused(book, BadText, ("line", "M", "x +"), at=3)
        self.refused(book, NoName, ("line", "M", "M"), name="M")
        self.refused(book, Ring, ("line", "La", "La"), name="La")
        book.do(("line", "La", "y"))
        book.do(("claim", "M", "unlike", "La", "Lb"))
        self.refused(book, Taken, ("line", "M", "x"), name="M")
        book.do(("drop", "Ll"))
        book.do(("line", "N", "x"))
        self.refused(book, Full, ("line", "Ll", "x"), most=12)
        self.assertEqual((len(book), repr(book)), (13, "Book(12 lines, 1 claims)"))


class BadTerms(Checks):
    def test_of_the_line_itself(self):
        book = lines(A="x + y", B="z + w")
        many = " + ".join(["x"] * 12)
        for text, flaw in ((f"~~({many})", "many"), ("A + B + v", "letters"), ("A + a + b + c", "letters"), ("~~~~~x", "deep"),
                           ("~~~~~A", "deep"), (f"({many})*({many})*a*b*c*d*~~~~~x", "many"), ("~~~~~(A + B + v)", "letters"),
                           ("A*A*A*A*A*A*A", "many"), ("~" * 3900 + "x", "many"), ("x" + "*x" * 1900, "many"), ("A" + " + A" * 990, "many")):
            self.refused(book, BadTerm, ("line", "N", text), flaw=flaw)
        for text, flaw in ((many + " - ~x", "many"), ("B + a + b + c", "letters"), ("~~~~~B", "deep"), ("~" * 3900 + "B", "many")):
            self.refused(book, BadTerm, ("line", "A", text), flaw=flaw)
        book.do(("line", "N", many))
        self.assertEqual(len(book), 3)

    def test_of_lines_that_lean_on_it(self):
        book = lines(A="x", B="A*A*A*A", C="B*B", D="~~~A", E="A + a + b + c")
        self.refused(book, BadTerm, ("line", "A", "x + x"), flaw="many")
        self.refused(book, BadTerm, ("line", "A", "~~x"), flaw="many")
        book = lines(A="x", D="~~~A", E="A + a + b + c")
        self.refused(book, BadTerm, ("line", "A", "~~x"), flaw="deep")
        self.refused(book, BadTerm, ("line", "A", "x + y"), flaw="letters")
        self.refused(book, BadTerm, ("line", "A", "~~(x + y)"), flaw="deep")
        book.do(("line", "A", "~y"))
        book.do(("line", "A", "a*b*c"))
        self.assertEqual(term_text(book.term_of("E")), "a*b*c + a + b + c")

    def test_ahead_of_unsound_of_the_same_line(self):
        book = lines(A="x", B="~~~~(A - 1)")
        self.refused(book, Unsound, ("line", "A", "~0"), which="A", place=0)
        self.refused(book, Unsound, ("line", "A", "1"), which="B", place=3)
        self.refused(book, BadTerm, ("line", "N", "~0*~~~~~x"), flaw="deep")
        self.refused(book, BadTerm, ("line", "A", "~2 + ~3"), flaw="deep")


class Unsounds(Checks):
    def test_of_the_line_itself(self):
        book = lines(A="x*y", B="y*x")
        for text, place in (("~0", 0), ("~(A - A)", 0), ("x + ~(B - B)", 2), ("~(A - B) + ~(x*y - A)", 9), ("~~(A - A)", 1),
                            ("~A*~(~A - ~y*~x)", 5), ("A*~(B - y*x)", 4)):
            self.refused(book, Unsound, ("line", "N", text), which="N", place=place)
        book.do(("line", "N", "~(A - B)"))
        self.refused(book, Unsound, ("line", "B", "A"), which="N", place=0)

    def test_of_lines_that_lean_on_it(self):
        book = lines(A="x", B="y + A", C="x*~(B - y)", D="~(A - 1)")
        self.refused(book, Unsound, ("line", "A", "0"), which="C", place=2)
        self.refused(book, Unsound, ("line", "A", "1"), which="D", place=0)
        self.refused(book, Unsound, ("line", "B", "y"), which="C", place=2)
        self.refused(book, Unsound, ("line", "A", "y - y"), which="C", place=2)
        book.do(("line", "A", "2"))
        self.assertEqual(term_text(book.term_of("D")), "~(2 - 1)")


class Order(Checks):
    """Each line is checked behind those touched ones that it leans on, ties go by name."""

    def test_by_names(self):
        book = lines(A="x", D="~(A - 1)", C="~(A - 1)", B="x + ~(A - 1)")
        self.refused(book, Unsound, ("line", "A", "1"), which="B", place=2)
        book.do(("line", "B", "x"))
        self.refused(book, Unsound, ("line", "A", "1"), which="C", place=0)

    def test_behind_those_that_it_leans_on(self):
        book = lines(Z="x", Y="~(Z - 1)", A="Y*~(Z - 1)", B="~~(Z - 1)")
        self.refused(book, Unsound, ("line", "Z", "1"), which="B", place=1)
        book.do(("line", "B", "Y + ~(Z - 1)"))
        self.refused(book, Unsound, ("line", "Z", "1"), which="Y", place=0)

    def test_the_least_name_of_those_that_are_free_each_time(self):
        # Touched by Z are C, then A that leans on C, then B: A is free as soon as C is checked, and goes ahead of D.
        book = lines(Z="x", C="Z", D="~(Z - 1)", A="C*~~(Z - 1)")
        self.refused(book, Unsound, ("line", "Z", "1"), which="A", place=3)
        book = lines(Z="x", D="Z", C="x + ~(Z - 1)", A="D*~~(Z - 1)")
        self.refused(book, Unsound, ("line", "Z", "1"), which="C", place=2)

    def test_bad_terms_and_unsound_go_line_by_line(self):
        book = lines(A="x", B="~(A - ~~y)", C="~~~~A")
        self.refused(book, Unsound, ("line", "A", "~~y"), which="B", place=0)
        book = lines(A="x", C="~(A - ~~y)", B="~~~~A")
        self.refused(book, BadTerm, ("line", "A", "~~y"), flaw="deep")
        book = lines(A="x", B="~(A + 1)", C="A*A*A*A*A*A*A")
        self.refused(book, BadTerm, ("line", "A", "~x + y"), flaw="many")
        self.refused(book, Unsound, ("line", "A", "x - x - 1"), which="B", place=0)

    def test_lines_that_are_not_touched_do_not_count(self):
        # B leans on Z, too, but Z isn't touched; so B goes by its name alone.
        book = lines(A="x", Z="y", B="Z*~(A - 1)", C="~(A - 1)")
        self.refused(book, Unsound, ("line", "A", "1"), which="B", place=2)

    def test_through_others(self):
        book = lines(P="x", Q="P", R="Q", A="R + ~(P - 1)", B="~(Q - 1)", S="~(R - 1)")
        self.refused(book, Unsound, ("line", "P", "1"), which="B", place=0)
        book.do(("line", "B", "x"))
        self.refused(book, Unsound, ("line", "P", "1"), which="A", place=2)
        book.do(("line", "A", "x"))
        self.refused(book, Unsound, ("line", "P", "1"), which="S", place=0)


class Claims(Checks):
    def test_both_words(self):
        book = made(("line", "A", "x*y"), ("line", "B", "y*x"), ("line", "C", "~(~y*~x)"), ("claim", "K", "alike", "A", "C"),
                    ("claim", "J", "unlike", "A", "B"))
        self.assertEqual((book.claims(), book.claim("K"), book.claim("J")), (["J", "K"], ("alike", "A", "C"), ("unlike", "A", "B")))
        self.assertEqual((book.paper("K")[0], book.paper("J")[0]), ("alike", "unlike"))
        self.refused(book, NotSo, ("claim", "N", "unlike", "A", "C"))
        self.refused(book, NotSo, ("claim", "N", "alike", "A", "B"))
        self.refused(book, NotSo, ("claim", "N", "unlike", "A", "A"))
        book.do(("claim", "N", "alike", "A", "A"))
        book.do(("claim", "M", "alike", "A", "C"))
        self.assertEqual(len(book.claims()), 4)

    def test_in_the_order_of_refusals(self):
        book = made(("line", "A", "x"), ("claim", "K", "alike", "A", "A"))
        for deed, kind, fields in (
                (("claim", "k", "no", "P", "Q"), BadName, {"name": "k"}), (("claim", "A", "no", "P", "Q"), Taken, {"name": "A"}),
                (("claim", "K", "no", "P", "Q"), Taken, {"name": "K"}), (("claim", "K", "alike", "A", "A"), Taken, {"name": "K"}),
                (("claim", "N", "no", "P", "Q"), BadWord, {"word_told": "no"}), (("claim", "N", "", "A", "A"), BadWord, {"word_told": ""}),
                (("claim", "N", "Alike", "A", "A"), BadWord, {"word_told": "Alike"}), (("claim", "N", "nought", "A", "A"), BadWord, {}),
                (("claim", "N", "alike", "P", "Q"), NoName, {"name": "P"}), (("claim", "N", "alike", "A", "Q"), NoName, {"name": "Q"}),
                (("claim", "N", "alike", "P", "A"), NoName, {"name": "P"}), (("claim", "N", "alike", "N", "A"), NoName, {"name": "N"}),
                (("claim", "N", "unlike", "A", "K"), NoName, {"name": "K"}), (("claim", "N", "alike", "x", "A"), NoName, {"name": "x"}),
                (("claim", "N", "unlike", "A", ""), NoName, {"name": ""}), (("claim", "N", "unlike", "A", "A"), NotSo, {})):
            self.refused(book, kind, deed, **fields)

    def test_eight_claims(self):
        self.assertEqual(home.MOST_CLAIMS, 8)
        book = made(("line", "A", "x"), *[("claim", name, "alike", "A", "A") for name in EIGHT])
        self.refused(book, Full, ("claim", "N", "alike", "A", "A"), most=8)
        self.refused(book, Full, ("claim", "N", "unlike", "A", "A"), most=8)
        self.refused(book, NoName, ("claim", "N", "alike", "A", "B"), name="B")
        self.refused(book, BadWord, ("claim", "N", "like", "A", "A"), word_told="like")
        self.refused(book, Taken, ("claim", "Ca", "alike", "A", "A"), name="Ca")
        book.do(("line", "B", "y"))
        book.do(("drop", "Ca"))
        book.do(("claim", "N", "unlike", "A", "B"))
        self.refused(book, Full, ("claim", "Ca", "alike", "A", "A"), most=8)
        self.assertEqual(repr(book), "Book(2 lines, 8 claims)")

    def test_breaks(self):
        book = made(("line", "A", "x"), ("line", "B", "A*y"), ("line", "C", "x*y"), ("line", "D", "y*A"),
                    ("claim", "P", "alike", "B", "C"), ("claim", "Q", "unlike", "B", "D"), ("claim", "M", "alike", "C", "C"))
        self.refused(book, Breaks, ("line", "A", "y"), name="P")
        self.refused(book, Breaks, ("line", "C", "y*x"), name="P")
        self.refused(book, Breaks, ("line", "B", "y*x"), name="P")
        self.refused(book, Breaks, ("line", "D", "B"), name="Q")
        book.do(("drop", "P"))
        self.refused(book, Breaks, ("line", "A", "y"), name="Q")
        self.refused(book, Breaks, ("line", "A", "2"), name="Q")
        book.do(("line", "A", "z"))
        book.do(("claim", "E", "unlike", "B", "C"))
        self.refused(book, Breaks, ("line", "A", "x"), name="E")
        self.refused(book, Breaks, ("line", "C", "z*y"), name="E")

    def test_the_first_by_name_goes(self):
        book = made(("line", "A", "x"), ("line", "B", "x"), ("line", "C", "y"), ("claim", "Z", "alike", "A", "B"),
                    ("claim", "P", "unlike", "A", "C"), ("claim", "Q", "alike", "B", "A"))
        self.refused(book, Breaks, ("line", "A", "y"), name="P")
        self.refused(book, Breaks, ("line", "A", "z"), name="Q")
        self.refused(book, Breaks, ("line", "B", "z"), name="Q")
        book.do(("line", "A", "x + 0"))

    def test_breaks_behind_bad_terms_and_unsound(self):
        book = made(("line", "A", "x"), ("line", "Z", "~(A - y)"), ("line", "B", "x"), ("claim", "K", "alike", "A", "B"))
        self.refused(book, Unsound, ("line", "A", "y"), which="Z", place=0)
        self.refused(book, BadTerm, ("line", "A", "~~~~y"), flaw="deep")
        self.refused(book, Breaks, ("line", "A", "z"), name="K")


class Drops(Checks):
    def test_both_kinds(self):
        book = made(("line", "A", "x"), ("line", "B", "A"), ("claim", "K", "alike", "A", "B"))
        book.do(("drop", "K"))
        self.assertEqual((book.names(), book.claims()), (["A", "B"], []))
        book.do(("drop", "B"))
        book.do(("drop", "A"))
        self.assertEqual((book.names(), len(book), book), ([], 0, Book()))
        book.do(("line", "K", "x"))
        self.assertEqual(book.names(), ["K"])

    def test_no_name(self):
        book = made(("line", "A", "x"), ("claim", "K", "alike", "A", "A"))
        for name in ("B", "", "a", "x", "Aa", "AB", " A"):
            self.refused(book, NoName, ("drop", name), name=name)

    def test_in_use(self):
        book = made(("line", "A", "x"), ("line", "D", "A"), ("line", "C", "D*A"), ("claim", "B", "alike", "A", "A"),
                    ("claim", "K", "unlike", "C", "D"))
        self.refused(book, InUse, ("drop", "A"), name="C")
        self.refused(book, InUse, ("drop", "D"), name="C")
        self.refused(book, InUse, ("drop", "C"), name="K")
        book.do(("line", "C", "y"))
        self.refused(book, InUse, ("drop", "A"), name="D")
        book.do(("line", "D", "x"))
        self.refused(book, InUse, ("drop", "A"), name="B")
        book.do(("claim", "Aa", "unlike", "C", "A"))
        self.refused(book, InUse, ("drop", "A"), name="Aa")
        self.refused(book, InUse, ("drop", "C"), name="Aa")
        book.do(("drop", "Aa"))
        book.do(("drop", "B"))
        book.do(("drop", "A"))
        self.assertEqual(book.names(), ["C", "D"])

    def test_through_others_it_is_not_had(self):
        book = lines(A="x", Z="A", B="Z")
        self.refused(book, InUse, ("drop", "A"), name="Z")


class BadDeeds(Checks):
    def test_what_is_no_such_tuple(self):
        book = made(("line", "A", "x"), ("claim", "K", "alike", "A", "A"))
        for deed in ((), ("line",), ("line", "B"), ("line", "B", "x", "y"), ("claim", "N", "alike", "A"), ("drop",), ("drop", "A", "B"),
                     ("claim", "N", "alike", "A", "A", "A"), ["drop", "K"], ["line", "B", "x"], "drop", "", None, 5, ("undo",), ("redo",),
                     ("line", "B", 5), ("line", 5, "x"), ("drop", None), ("drop", ("K",)), ("Line", "B", "x"), ("", "B", "x"), (5, "B"),
                     (None, "B"), ("claim", "N", "alike", "A", None), ("line", "B", X), (("drop", "K"),), ("line", "B", ["x"]), 0, True,
                     ("claim", "N", True, "A", "A"), {"drop": "K"}, ("names",), (["drop"], "K"), (("drop",), "K"), ("drop ", "K")):
            self.refused(book, BadDeed, deed)

    def test_under_which_heads(self):
        self.assertTrue(issubclass(BadDeed, NeverError))
        self.assertTrue(issubclass(NoName, Missing))


class Asking(Checks):
    def test_no_name_at_all_five(self):
        book = made(("line", "A", "x"), ("claim", "K", "alike", "A", "A"))
        for door, right in ((book.text_of, "A"), (book.term_of, "A"), (book.leaning, "A"), (book.claim, "K"), (book.paper, "K")):
            door(right)
            door(name=right)
            for name in ("B", "", "a", "x", "AB", "K" if right == "A" else "A"):
                with self.assertRaises(NoName) as caught:
                    door(name)
                self.assertEqual((caught.exception.word, caught.exception.name), ("NoName", name))

    def test_by_name(self):
        book = Book()
        self.assertIsNone(book.do(deed=("line", "A", "x")))
        self.assertIsNone(book.together(deeds=[("line", "B", "A")]))
        self.assertIsNone(book.undo())
        self.assertIsNone(book.redo())
        self.assertEqual(book.names(), ["A", "B"])

    def test_names_rise(self):
        book = made(*[("line", name, "x") for name in ("B", "Ab", "Z", "A", "Aa", "Zz")])
        self.assertEqual(book.names(), ["A", "Aa", "Ab", "B", "Z", "Zz"])
        for name in ("Q", "Ca", "C"):
            book.do(("claim", name, "alike", "A", "B"))
        self.assertEqual(book.claims(), ["C", "Ca", "Q"])
        self.assertEqual((Book().names(), Book().claims(), Book().steps()), ([], [], (0, 0)))

    def test_what_is_told_is_new(self):
        book = made(("line", "A", "x*y"), ("line", "B", "A"), ("line", "C", "y*x"), ("claim", "J", "alike", "A", "B"),
                    ("claim", "K", "unlike", "A", "C"))
        before = seen(book)
        for told in (book.names(), book.claims(), book.leaning("A"), book.paper("J")[1], book.paper("J")[1][0], book.paper("K")[1],
                     book.paper("K")[1]["x"], book.paper("K")[1]["y"][0]):
            self.assertTrue(told)
            told.clear()
        self.assertEqual(seen(book), before)
        self.assertIsInstance(book.claim("J"), tuple)
        self.assertIsInstance(book.steps(), tuple)
        self.assertIsInstance(book.paper("J"), tuple)

    def test_deeds_that_are_handed_in_stay(self):
        deeds = [("line", "A", "x"), ("line", "B", "A*A")]
        book = Book()
        book.together(deeds)
        self.assertEqual(deeds, [("line", "A", "x"), ("line", "B", "A*A")])
        deeds.clear()
        self.assertEqual(book.names(), ["A", "B"])
        book.together((("line", "C", "x"), ("drop", "B")))
        self.assertEqual(book.names(), ["A", "C"])

    def test_leaning(self):
        book = lines(A="x", C="A", B="C*y", Z="x", D="B + Z")
        self.assertEqual([book.leaning(name) for name in book.names()], [["B", "C", "D"], ["D"], ["B", "D"], [], ["D"]])

    def test_the_methods_stand_in_the_class_itself(self):
        for name in ("do", "together", "undo", "redo", "steps", "names", "claims", "text_of", "term_of", "leaning", "claim", "paper",
                     "twin", "__eq__", "__len__", "__repr__"):
            self.assertIn(name, vars(Book))


class Papers(Checks):
    def check(self, book):
        for name in book.claims():
            word, one, other = book.claim(name)
            one, other = book.term_of(one), book.term_of(other)
            paper = book.paper(name)
            self.assertEqual(paper[0], word)
            self.assertTrue(alike_holds(one, other, paper))
            self.assertEqual(paper[0], alike(one, other)[0])
            if word == "alike":
                self.assertTrue(plain_is_room(web_of(less(one, other)), paper[1]))

    def test_of_the_lines_reckonings(self):
        book = made(("line", "A", "x"), ("line", "B", "~(A*y)"), ("line", "C", "~y*~A"), ("line", "D", "A*y - y*A"),
                    ("claim", "P", "alike", "B", "C"), ("claim", "Q", "unlike", "B", "D"))
        self.check(book)
        first = book.paper("P"), book.paper("Q")
        book.do(("line", "A", "x*z + 1"))
        self.check(book)
        self.assertNotEqual(book.paper("P"), first[0])
        twin = book.twin()
        twin.do(("line", "A", "w"))
        self.check(twin)
        self.check(book)
        book.undo()
        self.check(book)
        self.assertEqual((book.paper("P"), book.paper("Q")), first)
        book.redo()
        self.check(book)
        twin.undo()
        self.assertEqual(twin.paper("P"), book.paper("P"))


class Steps(Checks):
    def test_undo_and_redo(self):
        book = Book()
        shown = [seen(book)[:4]]
        for deed in (("line", "A", "x"), ("line", "B", "A*y"), ("claim", "K", "unlike", "A", "B"), ("line", "A", "z"), ("drop", "K"),
                     ("drop", "B")):
            book.do(deed)
            shown.append(seen(book)[:4])
        for back in range(1, 7):
            book.undo()
            self.assertEqual((seen(book)[:4], book.steps()), (shown[6 - back], (6 - back, back)))
        self.assertRaises(NothingLeft, book.undo)
        self.assertEqual(book.steps(), (0, 6))
        for again in range(1, 7):
            book.redo()
            self.assertEqual((seen(book)[:4], book.steps()), (shown[again], (again, 6 - again)))
        with self.assertRaises(NothingLeft) as caught:
            book.redo()
        self.assertEqual(caught.exception.word, "NothingLeft")
        self.assertIsInstance(caught.exception, Missing)
        self.assertEqual((seen(book)[:4], book.steps()), (shown[6], (6, 0)))

    def test_nothing_left_of_a_new_one(self):
        book = Book()
        self.assertRaises(NothingLeft, book.undo)
        self.assertRaises(NothingLeft, book.redo)
        self.assertEqual((book.steps(), book), ((0, 0), Book()))

    def test_a_new_step_leaves_nothing_to_be_done_again(self):
        for step in (lambda book: book.do(("line", "C", "x")), lambda book: book.together([("line", "C", "x"), ("drop", "C")]),
                     lambda book: book.do(("line", "A", "x"))):
            book = lines(A="x", B="y")
            book.undo()
            self.assertEqual(book.steps(), (1, 1))
            step(book)
            self.assertEqual(book.steps(), (2, 0))
            self.assertRaises(NothingLeft, book.redo)

    def test_what_is_refused_leaves_it(self):
        book = lines(A="x", B="y")
        book.undo()
        self.refused(book, BadName, ("line", "c", "x"))
        self.refused(book, Unsound, ("line", "C", "~0"))
        self.refused(book, BadDeed, None)
        self.assertRaises(Stopped, book.together, [("line", "C", "x"), ("drop", "Q")])
        book.together([])
        book.together(())
        self.assertEqual(book.steps(), (1, 1))
        book.redo()
        self.assertEqual((book.names(), book.steps()), (["A", "B"], (2, 0)))

    def test_a_step_that_leaves_all_as_it_was_is_one(self):
        book = lines(A="x")
        book.do(("line", "A", "x"))
        self.assertEqual(book.steps(), (2, 0))
        book.together([("line", "B", "x"), ("drop", "B")])
        self.assertEqual((book.steps(), book.names()), ((3, 0), ["A"]))

    def test_asking_is_no_step(self):
        book = made(("line", "A", "x"), ("claim", "K", "alike", "A", "A"))
        book.undo()
        for _ in range(2):
            seen(book), book.twin(), book == Book(), len(book), repr(book), bool(book)
        self.assertEqual(book.steps(), (1, 1))


class Together(Checks):
    def test_all_as_one_step(self):
        book = lines(A="x")
        book.together([("line", "B", "A*y"), ("line", "C", "B"), ("claim", "K", "alike", "B", "C"), ("line", "A", "z")])
        self.assertEqual((book.names(), book.claims(), book.steps()), (["A", "B", "C"], ["K"], (2, 0)))
        book.undo()
        self.assertEqual((book.names(), book.claims(), book.text_of("A"), book.steps()), (["A"], [], "x", (1, 1)))
        book.redo()
        self.assertEqual((book.names(), book.text_of("A"), book.steps()), (["A", "B", "C"], "z", (2, 0)))

    def test_none_of_them(self):
        book = made(("line", "A", "x"), ("line", "B", "A"), ("claim", "K", "alike", "A", "B"))
        before = seen(book)
        fine = [("line", "C", "A"), ("line", "D", "C*C"), ("drop", "K"), ("line", "B", "y")]
        for bad, why in ((("line", "c", "x"), "BadName"), (("line", "C", "Q"), "NoName"), (("line", "A", "D"), "Ring"), (None, "BadDeed"),
                         (("claim", "D", "alike", "A", "A"), "Taken"), (("drop", "A"), "InUse"), (("drop", "K"), "NoName"),
                         (("claim", "L", "alike", "A", "B"), "NotSo"), (("line", "A", "~0"), "Unsound"), (("line", "E", "x x"), "BadText"),
                         (["drop", "D"], "BadDeed"), (("claim", "L", "like", "A", "A"), "BadWord"), (("undo",), "BadDeed"),
                         (("line", "E", "~~~~~x"), "BadTerm")):
            for behind in ([], [("drop", "D")], [None]):
                with self.assertRaises(Stopped) as caught:
                    book.together(fine + [bad] + behind)
                self.assertEqual((caught.exception.word, caught.exception.at, caught.exception.why), ("Stopped", 4, why))
                self.assertEqual(seen(book), before)

    def test_the_place(self):
        book = Book()
        for deeds, at, why in (([None], 0, "BadDeed"), ([("line", "A", "x"), ("line", "B", "C"), None], 1, "NoName"),
                               ([("line", "A", "x")] * 3 + [("drop", "A")] * 2, 4, "NoName"),
                               ([("line", name, "x") for name in TWELVE] + [("line", "M", "x")], 12, "Full"),
                               ([("line", "A", "x"), ("claim", "K", "alike", "A", "A"), ("line", "K", "x")], 2, "Taken"),
                               ([("line", "A", "x"), ("line", "B", "x"), ("claim", "K", "alike", "A", "B"), ("line", "A", "y")], 3, "Breaks")):
            with self.assertRaises(Stopped) as caught:
                book.together(deeds)
            self.assertEqual((caught.exception.at, caught.exception.why), (at, why))
            self.assertEqual((book, book.steps()), (Book(), (0, 0)))

    def test_none_at_all_are_no_step(self):
        book = lines(A="x")
        self.assertIsNone(book.together([]))
        self.assertIsNone(book.together(()))
        self.assertEqual(book.steps(), (1, 0))

    def test_claims_hold_after_each_deed(self):
        """A claim that only the next deed would mend breaks at the first one."""
        book = made(("line", "A", "x"), ("line", "B", "x"), ("claim", "K", "alike", "A", "B"))
        with self.assertRaises(Stopped) as caught:
            book.together([("line", "A", "y"), ("line", "B", "y")])
        self.assertEqual((caught.exception.at, caught.exception.why), (0, "Breaks"))
        book.together([("drop", "K"), ("line", "A", "y"), ("line", "B", "y"), ("claim", "K", "alike", "A", "B")])
        self.assertEqual(book.text_of("A"), "y")


class Twins(Checks):
    def test_they_go_apart(self):
        book = made(("line", "A", "x"), ("line", "B", "A"), ("claim", "K", "alike", "A", "B"))
        book.undo()
        twin = book.twin()
        self.assertIsInstance(twin, Book)
        self.assertIsNot(twin, book)
        self.assertEqual(seen(twin), seen(book))
        other = twin.twin()
        twin.do(("line", "A", "y"))
        self.assertEqual((twin.steps(), book.steps(), other.steps()), ((3, 0), (2, 1), (2, 1)))
        self.assertEqual((twin.text_of("A"), book.text_of("A"), other.text_of("A")), ("y", "x", "x"))
        book.redo()
        self.assertEqual((book.claims(), other.claims(), twin.claims()), (["K"], [], []))
        other.undo()
        other.undo()
        self.assertEqual((other.names(), other.steps(), book.names(), book.steps()), ([], (0, 3), ["A", "B"], (3, 0)))
        other.do(("line", "Z", "1"))
        other.undo()
        book.undo()
        book.undo()
        book.undo()
        self.assertEqual((book.steps(), other.steps(), twin.steps()), ((0, 3), (0, 1), (3, 0)))
        self.assertEqual(twin.names(), ["A", "B"])

    def test_of_an_empty_one(self):
        twin = Book().twin()
        self.assertEqual((twin, twin.steps()), (Book(), (0, 0)))


class Like(Checks):
    def test_equal(self):
        book = made(("line", "A", "x"), ("line", "B", "A + 1"), ("claim", "K", "unlike", "A", "B"))
        other = made(("line", "B", "x"), ("line", "A", "(x)"), ("line", "B", "A+1"), ("claim", "K", "unlike", "A", "B"))
        self.assertTrue(book == other)
        self.assertFalse(book != other)
        self.assertNotEqual(book.steps(), other.steps())
        other.do(("drop", "K"))
        self.assertTrue(book != other)
        self.assertFalse(book == other)
        other.do(("claim", "K", "unlike", "B", "A"))
        self.assertTrue(book != other)
        other.together([("drop", "K"), ("claim", "L", "unlike", "A", "B")])
        self.assertTrue(book != other)
        other.together([("drop", "L"), ("claim", "K", "unlike", "A", "B")])
        self.assertTrue(book == other)

    def test_equal_reckonings_with_unequal_formulas(self):
        one, other = lines(A="x", B="A*A"), lines(A="x", B="x*x")
        self.assertEqual(one.term_of("B"), other.term_of("B"))
        self.assertTrue(one != other)
        self.assertFalse(one == other)
        self.assertNotEqual(lines(A="x + y"), lines(A="y + x"))
        self.assertNotEqual(lines(A="x"), lines(B="x"))
        self.assertNotEqual(lines(A="x*(y*z)"), lines(A="x*y*z"))
        self.assertNotEqual(lines(A="x", B="A - (A - x)"), lines(A="x", B="A - A - x"))

    def test_equal_to_nothing_else(self):
        for book in (Book(), lines(A="x")):
            for other in (None, 0, 1, "Book(0 lines, 0 claims)", [], {}, (), {"A": X}, False, Book):
                self.assertFalse(book == other)
                self.assertTrue(book != other)
                self.assertFalse(other == book)

    def test_len_truth_and_repr(self):
        book = Book()
        self.assertEqual((len(book), bool(book), repr(book)), (0, False, "Book(0 lines, 0 claims)"))
        book.together([("line", "A", "x"), ("line", "B", "x"), ("claim", "K", "alike", "A", "B")])
        self.assertEqual((len(book), bool(book), repr(book)), (3, True, "Book(2 lines, 1 claims)"))
        book.undo()
        self.assertEqual((len(book), bool(book)), (0, False))


class Bearable(Checks):
    def test_twelve_lines_and_eight_claims(self):
        start = time.process_time()
        book = lines(A="x", **{name: "~~(A*y - z*A)*~(A - w) + ~A" for name in TWELVE[:11]})
        for at, name in enumerate(EIGHT):
            book.do(("claim", name, "alike", TWELVE[at], TWELVE[at + 1]))
        for text in ("y", "z", "~x"):
            book.do(("line", "A", text))
        self.assertLess(time.process_time() - start, 60)

    def test_thrown_deeds(self):
        """Many deeds, each answered as one asks it of a plain list of all lines."""
        chance = random.Random(90)
        book = Book()
        words = {}
        for _ in range(400):
            name, other, third = (chance.choice(["A", "B", "C", "D", "Ee", "F"]) for _ in range(3))
            text = chance.choice(["x", "y", "0", "1", f"{other} + x", f"{other}*{third}", f"~({other} - {third})", f"~{other}", "x*y", "y*x",
                                  f"{other} - 1", "x x"])
            deed = chance.choice([("line", name, text), ("line", name, text), ("line", name, text),
                                  ("claim", chance.choice("KLM"), chance.choice(["alike", "unlike"]), other, third),
                                  ("drop", chance.choice([name, "K", "L", "M"]))])
            before = seen(book)
            try:
                book.do(deed)
                words["done"] = words.get("done", 0) + 1
                self.check(book)
                self.assertEqual(book.steps(), (before[4][0] + 1, 0))
                if chance.random() < 0.2:
                    book.undo()
                    self.assertEqual(seen(book)[:4], before[:4])
                    if chance.random() < 0.5:
                        book.redo()
            except (NeverError, Missing) as refusal:
                words[refusal.word] = words.get(refusal.word, 0) + 1
                self.assertEqual(seen(book), before)
        for word in ("done", "NoName", "Ring", "Unsound", "Breaks", "NotSo", "InUse", "Taken", "BadText"):
            self.assertIn(word, words)

    def check(self, book):
        terms = {}
        left = book.names()
        while left:
            for name in list(left):
                try:
                    terms[name] = self.filled(book.text_of(name), terms)
                    left.remove(name)
                except KeyError:
                    pass
        self.assertEqual(terms, {name: book.term_of(name) for name in book.names()})
        for name in book.claims():
            word, one, other = book.claim(name)
            self.assertEqual(alike(terms[one], terms[other])[0], word)

    def filled(self, text, terms):
        """The reckoning of a text; letters of six signs stand in for the names, and these are put in their places."""
        letters = {"A": "aaaaaa", "B": "bbbbbb", "C": "cccccc", "D": "dddddd", "Ee": "eeeeee", "F": "ffffff"}
        for name, letter in letters.items():
            text = text.replace(name, letter)
        return self.put(read_term(text), {letters[name]: name for name in letters}, terms)

    def put(self, term, names, terms):
        if term[0] == "letter":
            return terms[names[term[1]]] if term[1] in names else term
        if term[0] == "share":
            return term
        return (term[0], *[self.put(thing, names, terms) for thing in term[1:]])

    def test_undone(self):
        self.assertEqual(lines(A="~~~~x").term_of("A"), undone(X, 4))


if __name__ == "__main__":
    unittest.main()
