"""Promise [21]: a desk answers lines of words."""

import inspect
import random
import unittest

from nevernought.book import Book
from nevernought.desk import Desk
from nevernought.pages import page

START = ["line A x*y", "line B y*x", "line C ~(~y*~x)", "line D ~(1 - A)", "claim K alike A C", "claim L unlike A B"]


def desk_of(*lines):
    desk = Desk()
    for line in lines:
        assert desk.say(line) == "done", line
    return desk


class Checks(unittest.TestCase):
    def check(self, desk, *pairs):
        for line, answer in pairs:
            self.assertEqual(desk.say(line), answer, line)

    def unchanged(self, desk, *pairs):
        """Lines with these answers that change nothing, asked twice."""
        before = (page(desk.book), desk.book.steps())
        self.check(desk, *pairs)
        self.check(desk, *pairs)
        self.assertEqual((page(desk.book), desk.book.steps()), before)


class Deeds(Checks):
    def test_done(self):
        desk = Desk()
        self.check(desk, ("line A x + 1", "done"), ("line B A*A", "done"), ("claim K unlike A B", "done"), ("line B  ( x )", "done"),
                   ("drop K", "done"), ("undo", "done"), ("undo", "done"), ("redo", "done"))
        self.assertEqual((desk.book.names(), desk.book.claims(), desk.book.text_of("B"), desk.book.steps()), (["A", "B"], ["K"], "x", (4, 1)))

    def test_the_text_is_all_that_is_left(self):
        desk = Desk()
        self.check(desk, ("line A  x  +  1 ", "done"), ("text A", "x + 1"), ("line A ", "no BadText"), ("line A  ", "no BadText"),
                   ("line A x y", "no BadText"), ("line A (x) ", "done"), ("text A", "x"), ("line B A * A", "done"), ("text B", "A*A"))

    def test_refusals(self):
        desk = desk_of("line A x", "line B A*y", "claim K unlike A B")
        self.unchanged(desk, ("line a x", "no BadName"), ("line AB x", "no BadName"), ("line K x", "no Taken"), ("line C x +", "no BadText"),
                       ("line C C", "no NoName"), ("line C Q", "no NoName"), ("line A B", "no Ring"), ("line A ~~~~~x", "no BadTerm"),
                       ("line C ~(A - x)", "no Unsound"), ("line B A", "no Breaks"), ("claim k alike A B", "no BadName"), ("claim A alike A B", "no Taken"),
                       ("claim J like A B", "no BadWord"), ("claim J alike A Q", "no NoName"), ("claim J alike A B", "no NotSo"), ("drop Q", "no NoName"),
                       ("drop A", "no InUse"), ("redo", "no NothingLeft"), ("text Q", "no NoName"), ("drop a", "no NoName"))

    def test_full(self):
        desk = desk_of(*[f"line L{letter} x" for letter in "abcdefghijkl"], *[f"claim C{letter} alike La Lb" for letter in "abcdefgh"])
        self.unchanged(desk, ("line M x", "no Full"), ("claim M alike La Lb", "no Full"))

    def test_nothing_left(self):
        desk = Desk()
        self.unchanged(desk, ("undo", "no NothingLeft"), ("redo", "no NothingLeft"))
        self.check(desk, ("line A x", "done"), ("undo", "done"), ("undo", "no NothingLeft"), ("redo", "done"), ("redo", "no NothingLeft"))


class Questions(Checks):
    def test_names_and_claims(self):
        self.unchanged(Desk(), ("names", "none"), ("claims", "none"))
        desk = desk_of("line B x", "line A x", "line Ab x")
        self.unchanged(desk, ("names", "A Ab B"), ("claims", "none"))
        self.check(desk, ("claim Z alike A B", "done"), ("claim C alike A B", "done"))
        self.unchanged(desk, ("claims", "C Z"), ("names", "A Ab B"))

    def test_texts(self):
        desk = desk_of(*START)
        self.unchanged(desk, ("text A", "x*y"), ("text C", "~(~y*~x)"), ("text D", "~(1 - A)"), ("text K", "alike A C"), ("text L", "unlike A B"),
                       ("text Q", "no NoName"), ("text a", "no NoName"), ("text x", "no NoName"), ("text AB", "no NoName"))

    def test_parts(self):
        desk = desk_of(*START, "line E 1/2", "line F E + E*D")
        self.unchanged(desk, ("parts A", "3"), ("parts C", "6"), ("parts D", "6"), ("parts E", "1"), ("parts F", "10"), ("parts K", "no NoName"),
                       ("parts Q", "no NoName"))

    def test_alike_and_commute(self):
        desk = desk_of(*START, "line E 2", "line F A*A - 1")
        self.unchanged(desk, ("alike A A", "yes"), ("alike A B", "no"), ("alike B A", "no"), ("alike A C", "yes"), ("alike A Q", "no NoName"),
                       ("alike Q A", "no NoName"), ("alike K A", "no NoName"), ("commute A A", "yes"), ("commute A B", "no"), ("commute A E", "yes"),
                       ("commute A F", "yes"), ("commute B F", "no"), ("commute A K", "no NoName"), ("commute Q Q", "no NoName"), ("commute D A", "yes"))

    def test_rooms_and_weights(self):
        desk = desk_of(*START, "line E ~x", "line F 0", "line G -7/3", "line H ~(2 - x)")
        self.unchanged(desk, ("rooms A", "3"), ("rooms B", "3"), ("rooms D", "2"), ("rooms F", "0"), ("rooms G", "1"), ("rooms E", "no Unsteady"),
                       ("rooms C", "no Unsteady"), ("rooms Q", "no NoName"), ("rooms K", "no NoName"), ("weight A", "0"), ("weight A x y", "1"),
                       ("weight A y x", "0"), ("weight A x", "0"), ("weight D", "1"), ("weight D x y x y", "1"), ("weight D x y x", "0"), ("weight G", "-7/3"),
                       ("weight G x", "0"), ("weight F", "0"), ("weight H", "1/2"), ("weight H x", "1/4"), ("weight H x x x", "1/16"), ("weight H q", "0"),
                       ("weight H abcdef x", "0"), ("weight E", "no Unsteady"), ("weight E x", "no Unsteady"), ("weight Q", "no NoName"),
                       ("weight Q x", "no NoName"), ("weight K", "no NoName"))

    def test_words_of_a_weight_that_are_no_letters(self):
        desk = desk_of("line A x", "line E ~x")
        self.unchanged(desk, ("weight A X", "what"), ("weight A x1", "what"), ("weight A 1", "what"), ("weight A abcdefg", "what"), ("weight A ", "what"),
                       ("weight A  x", "what"), ("weight A x ", "what"), ("weight A x  x", "what"), ("weight A x A", "what"), ("weight A x,y", "what"),
                       ("weight Q X", "what"), ("weight E X", "what"), ("weight A  ", "what"), ("weight", "what"))

    def test_long_words(self):
        desk = desk_of("line A ~(1 - x - 2*y)")
        self.check(desk, ("weight A" + " x y" * 40, str(2 ** 40)))

    def test_great_shares(self):
        desk = desk_of("line A ~(999999999998/7 - x)")
        self.check(desk, ("weight A x", "49/999999999996000000000004"))


class What(Checks):
    def test_words_too_few(self):
        desk = desk_of(*START)
        self.unchanged(desk, *[(line, "what") for line in (
            "", "line", "line A", "claim", "claim N", "claim N alike", "claim N alike A", "drop", "text", "parts", "alike", "alike A", "commute",
            "commute A", "rooms", "weight")])

    def test_words_too_many(self):
        desk = desk_of(*START)
        self.unchanged(desk, *[(line, "what") for line in (
            "claim N alike A A A", "drop A B", "undo A", "redo A", "names A", "claims A", "text A B", "parts A B", "alike A B C", "commute A B C",
            "rooms A B", "undo undo", "names names")])

    def test_blanks(self):
        desk = desk_of(*START)
        self.unchanged(desk, *[(line, "what") for line in (
            " ", "  ", " names", "names ", " undo", "undo ", "undo  ", " line A x", "drop A ", "drop  A", " drop K", "text A ", "text  A", "parts  A",
            "alike A  B", "alike  A B", "alike A B ", "commute A B ", "commute A  B", "rooms A ", "rooms  A", "claim N  alike A A", "claim N alike A  A",
            "claim  N alike A A", "claim N alike A A ", " claim N alike A A", " weight A", "claims ", "redo ")])

    def test_capitals_and_other_words(self):
        desk = desk_of(*START)
        self.unchanged(desk, *[(line, "what") for line in (
            "Line A x", "LINE A x", "Claim N alike A A", "Drop A", "Undo", "REDO", "Names", "Claims", "Text A", "Parts A", "Alike A B", "Commute A B",
            "Rooms A", "Weight A", "linee A x", "steps", "page", "twin", "nought A", "sound A", "unlike A B", "x", "A", "done", "what", "no", "none",
            "leaning A", "paper K", "quit", "lineA x")])


class Books(Checks):
    def test_the_handed_book_is_that_very_one(self):
        for book in (Book(), desk_of(*START).book):
            desk = Desk(book=book)
            self.assertIs(desk.book, book)
        self.assertIsInstance(Desk().book, Book)
        self.assertIsInstance(Desk(book=None).book, Book)
        self.assertIsNot(Desk().book, Desk().book)
        self.assertEqual(Desk().book, Book())
        self.assertRaises(TypeError, Desk, Book())
        told = inspect.signature(Desk.__init__).parameters["book"]
        self.assertEqual((told.default, told.kind), (None, told.KEYWORD_ONLY))

    def test_two_desks_share_a_book(self):
        book = Book()
        one, other = Desk(book=book), Desk(book=book)
        self.check(one, ("line A x", "done"))
        self.check(other, ("names", "A"), ("line B A", "done"))
        self.check(one, ("names", "A B"), ("undo", "done"))
        self.check(other, ("names", "A"), ("redo", "done"))
        self.check(one, ("redo", "no NothingLeft"), ("names", "A B"))
        book.do(("drop", "B"))
        self.check(one, ("names", "A"))
        self.assertEqual(book.steps(), (3, 0))

    def test_say_by_name(self):
        self.assertEqual(Desk().say(line="names"), "none")
        self.assertIn("say", vars(Desk))

    def test_a_desk_does_as_its_book_does(self):
        chance = random.Random(110)
        desk, book = Desk(), Book()
        seen = set()
        for _ in range(300):
            name, one, other = (chance.choice("ABCKL") for _ in range(3))
            deed = chance.choice([("line", name, f"{one} + {other}"), ("line", name, "x"), ("line", name, f"~{one}"), ("line", name, "y -"),
                                  ("claim", name, chance.choice(["alike", "unlike"]), one, other), ("drop", name)])
            try:
                book.do(deed)
                right = "done"
            except (ValueError, LookupError) as refusal:
                right = "no " + refusal.word
            seen.add(right)
            self.assertEqual(desk.say(" ".join(deed)), right)
            self.assertEqual(desk.book, book)
        self.assertTrue({"done", "no NoName", "no BadText", "no InUse", "no Taken"} <= seen)


if __name__ == "__main__":
    unittest.main()
