"""Promise [20]: books as pages, and pages read."""

import random
import unittest

from nevernought.book import Book
from nevernought.errors import BadPage, Missing, NeverError
from nevernought.pages import page, read_page

PAGE = """line A x + 1
line C A*y
line B C - A
line Z ~(B + 2)
claim D unlike A B
claim Y alike Z Z
"""


def made(*deeds):
    book = Book()
    book.together(list(deeds))
    return book


def some_book(chance):
    """A book of lines and claims that were thrown."""
    book = Book()
    names = ["A", "Ab", "B", "C", "Dd", "Q", "Zz", "Z"]
    for _ in range(25):
        name, one, other = (chance.choice(names) for _ in range(3))
        text = chance.choice(["x", "y*x", "1/2", f"{one}*x", f"{one} - {other}", f"~({one} + 2)", f"(-1)*{one}", f"{one} - (-1/3)"])
        for deed in (("line", name, text), ("claim", chance.choice(["E", "K", "Mm", "Y"]), chance.choice(["alike", "unlike"]), one, other)):
            try:
                book.do(deed)
            except (NeverError, Missing):
                pass
    return book


class Pages(unittest.TestCase):
    def test_by_hand(self):
        self.assertEqual(page(Book()), "")
        self.assertEqual(page(made(("line", "A", "(x)"))), "line A x\n")
        book = made(("line", "A", "x + 1"), ("line", "C", "A*y"), ("line", "B", "C-A"), ("line", "Z", "~(B+2)"),
                    ("claim", "Y", "alike", "Z", "Z"), ("claim", "D", "unlike", "A", "B"))
        self.assertEqual(page(book), PAGE)
        self.assertEqual(page(book=book), PAGE)

    def test_the_order_of_rows(self):
        """Each time the least name of those whose lines stand already."""
        book = made(("line", "C", "x"), ("line", "B", "y"), ("line", "A", "C"), ("line", "D", "B"), ("line", "E", "D*A"))
        self.assertEqual(page(book), "line B y\nline C x\nline A C\nline D B\nline E D*A\n")
        book = made(("line", "Z", "x"), ("line", "Y", "Z"), ("line", "X", "Y"), ("line", "A", "X"), ("line", "B", "1"), ("line", "W", "2"))
        self.assertEqual(page(book), "line B 1\nline W 2\nline Z x\nline Y Z\nline X Y\nline A X\n")
        book = made(("line", "D", "x"), ("line", "A", "D"), ("line", "C", "x"), ("line", "E", "x"), ("line", "B", "A + E"))
        self.assertEqual(page(book), "line C x\nline D x\nline A D\nline E x\nline B A + E\n")
        book = made(("line", "B", "x"), ("line", "Ab", "x"), ("line", "A", "x"), ("line", "Aa", "B"))
        self.assertEqual(page(book), "line A x\nline Ab x\nline B x\nline Aa B\n")

    def test_it_has_no_part_in_how_the_book_came_to_be(self):
        one = made(("line", "A", "x"), ("line", "B", "A"), ("line", "C", "y"), ("claim", "K", "alike", "A", "B"))
        other = made(("line", "C", "x"), ("line", "B", "C"), ("line", "A", "x"), ("line", "B", "A"), ("claim", "K", "alike", "A", "B"),
                     ("line", "C", "y"))
        self.assertEqual(page(one), page(other))
        other.undo()
        self.assertEqual(page(other), "")


class Reading(unittest.TestCase):
    def test_by_hand(self):
        book = read_page(PAGE)
        self.assertIsInstance(book, Book)
        self.assertEqual((book.names(), book.claims(), book.steps()), (["A", "B", "C", "Z"], ["D", "Y"], (0, 0)))
        self.assertEqual((page(book), book.text_of("B"), book.claim("D")), (PAGE, "C - A", ("unlike", "A", "B")))
        self.assertEqual(read_page(text=PAGE), book)
        self.assertEqual((read_page(""), read_page("").steps()), (Book(), (0, 0)))

    def test_thrown(self):
        chance = random.Random(100)
        sizes = set()
        for _ in range(40):
            book = some_book(chance)
            again = read_page(page(book))
            self.assertEqual(again, book)
            self.assertFalse(again != book)
            self.assertEqual((again.steps(), page(again)), ((0, 0), page(book)))
            self.assertEqual([again.term_of(name) for name in again.names()], [book.term_of(name) for name in book.names()])
            self.assertEqual([again.paper(name) for name in again.claims()], [book.paper(name) for name in book.claims()])
            sizes.add(len(book))
        self.assertGreater(len(sizes), 3)

    def test_further_deeds_are_answered_alike(self):
        chance = random.Random(101)
        answers = set()
        for _ in range(25):
            book = some_book(chance)
            again = read_page(page(book))
            for _ in range(15):
                name, one, other = (chance.choice(["A", "B", "C", "Z", "Q", "K"]) for _ in range(3))
                deed = chance.choice([("line", name, f"{one} + {other}"), ("drop", name), ("claim", name, "alike", one, other),
                                      ("line", name, "0"), ("line", name, "~0"), ("claim", "V", "unlike", one, other)])
                told = []
                for each in (book, again):
                    try:
                        told.append(each.do(deed))
                    except (NeverError, Missing) as refusal:
                        told.append(vars(refusal))
                self.assertEqual(told[0], told[1])
                answers.add(told[0] and told[0]["word"])
                self.assertEqual(book, again)
        self.assertTrue({None, "NoName", "InUse", "Unsound"} <= answers)

    def test_a_full_one(self):
        texts = ["~(x + 1)*y - (-1/2)*~~x"] * 4 + [f"{'x*' * 11}999999999999/999999999998"] * 7
        book = made(*[("line", f"L{letter}", text) for letter, text in zip("abcdefghijk", texts)], ("line", "Ll", "La + 1"),
                    *[("claim", f"C{letter}", "alike", "La", "Lb") for letter in "abcdefgh"])
        self.assertEqual(read_page(page(book)), book)
        self.assertEqual(repr(read_page(page(book))), "Book(12 lines, 8 claims)")
        for more, row in (("line M x\n", 20), ("claim Ci alike La La\n", 20)):
            with self.assertRaises(BadPage) as caught:
                read_page(page(book) + more)
            self.assertEqual(caught.exception.row, row)


class Refusals(unittest.TestCase):
    def refused(self, text, row):
        with self.assertRaises(BadPage) as caught:
            read_page(text)
        self.assertEqual((caught.exception.word, caught.exception.row), ("BadPage", row), text)

    def test_rows_left_out(self):
        rows = PAGE.splitlines(keepends=True)
        for at, row in ((0, 0), (1, 1), (2, 2), (3, 4)):
            self.refused("".join(rows[:at] + rows[at + 1:]), row)
        for at in (4, 5):
            self.assertEqual(len(read_page("".join(rows[:at] + rows[at + 1:]))), 5)

    def test_rows_twice(self):
        rows = PAGE.splitlines(keepends=True)
        for at in range(len(rows)):
            self.refused("".join(rows[:at + 1] + rows[at:]), at + 1)
            for later in range(at + 1, len(rows) + 1):
                self.refused("".join(rows[:later] + [rows[at]] + rows[later:]), later)

    def test_rows_exchanged(self):
        rows = PAGE.splitlines(keepends=True)
        for at, row in ((0, 0), (1, 1), (2, 2), (3, 4), (4, 5)):
            self.refused("".join(rows[:at] + [rows[at + 1], rows[at]] + rows[at + 2:]), row)
        self.refused("line B x\nline A x\n", 1)
        self.refused("line A x\nline C x\nline B x\nline D x\n", 2)
        self.refused("line Z x\nline Y Z\nline B x\n", 2)
        self.refused("line C x\nline B y\nline A C\n", 1)
        self.refused("line B y\nline C x\nline D B\nline A C\n", 3)
        self.refused("line A x\nclaim K alike A A\nclaim B alike A A\n", 2)
        self.refused("line A x\nclaim K alike A A\nline B x\n", 2)
        self.refused("line A x\nclaim B alike A A\nline K x\n", 2)

    def test_odd_rows_put_in(self):
        rows = PAGE.splitlines(keepends=True)
        for odd in ("\n", " \n", "x\n", "line\n", "line Q\n", "claim\n", "claim Q alike A\n", "claim Q alike A A A\n", "drop A\n", "drop Z\n",
                    "undo\n", "names\n", "line Q \n", "Line Q x\n", "line Q x x\n", "line q x\n", "claim Q like A A\n", "line Q ~0\n",
                    "claim Q alike A B\n", "line A ~0\n", "line Q Q\n", "line Q Nope\n", "claim A alike A A\n", "  \n", "drop Q\n"):
            for at in range(len(rows) + 1):
                self.refused("".join(rows[:at] + [odd] + rows[at:]), at)
            self.refused(odd, 0)
        for at in range(1, len(rows) + 1):
            self.refused("".join(rows[:at] + ["line A x\n"] + rows[at:]), at)

    def test_signs_put_in_or_left_out(self):
        rows = PAGE.split("\n")[:-1]
        for row, text in enumerate(rows):
            for at in range(len(text)):
                for bent in (text[:at] + " " + text[at:], text[:at] + "." + text[at:], text[:at] + text[at] * 2 + text[at + 1:]):
                    self.check_bent(rows, row, bent)
                self.check_bent(rows, row, text[:at] + text[at + 1:])
            self.check_bent(rows, row, text + " ")

    def check_bent(self, rows, row, bent):
        """A page with another row is read as that page is, or refused there or further on."""
        text = "\n".join(rows[:row] + [bent] + rows[row + 1:]) + "\n"
        try:
            self.assertEqual(page(read_page(text)), text)
        except BadPage as refusal:
            self.assertGreaterEqual(refusal.row, row)

    def test_needless_blanks_and_brackets(self):
        for bent, row in ((PAGE.replace("x + 1", "x+1"), 0), (PAGE.replace("x + 1", "(x + 1)"), 0), (PAGE.replace("x + 1", "(x) + 1"), 0),
                          (PAGE.replace("A*y", "A * y"), 1), (PAGE.replace("C - A", "C - (A)"), 2), (PAGE.replace("~(B", "~ (B"), 3),
                          (PAGE.replace("line C A", "line C  A"), 1), (PAGE.replace("line C A", "line  C A"), 1), (" " + PAGE, 0),
                          (PAGE.replace("line C A", " line C A"), 1), (PAGE.replace("A*y\n", "A*y \n"), 1), (PAGE.replace("D unlike", "D  unlike"), 4),
                          (PAGE.replace("A B\n", "A B \n"), 4), (PAGE.replace("Z Z\n", "Z  Z\n"), 5), (PAGE.replace("x + 1", "1/2*-1"), 0)):
            self.assertNotEqual(bent, PAGE)
            self.refused(bent, row)

    def test_line_feeds(self):
        self.refused(PAGE[:-1], 5)
        self.refused(PAGE + "\n", 6)
        self.refused("\n" + PAGE, 0)
        self.refused("\n", 0)
        self.refused("\n\n", 0)
        self.refused(PAGE.replace("A*y\n", "A*y\n\n"), 2)
        self.refused("line A x", 0)
        self.refused("x", 0)
        self.refused(" ", 0)
        self.refused("line A x\n ", 1)
        self.refused("line A x\nline B", 1)
        self.refused("line a x\nline B x", 0)
        self.refused("line A x\nline B x\nline C x", 2)

    def test_what_is_refused_behind_those_ahead(self):
        for text, row in (("line A x\nline B A\nline C ~(A - B)\n", 2), ("line A x\nline B y\nclaim K alike A B\n", 2), ("line A A\n", 0),
                          ("claim K alike A A\n", 0), ("line A x\nclaim A alike A A\n", 1), ("line A x\nclaim K unlike A A\n", 1),
                          ("line A x\nclaim K like A A\n", 1), ("line A x\nclaim K alike A Q\n", 1), ("line A ~~~~~x\n", 0), ("line Ab x\nline ab x\n", 1),
                          ("line A " + "x*" * 12 + "x\n", 0), ("".join(f"line L{letter} x\n" for letter in "abcdefghijklm"), 12),
                          ("line A x\n" + "".join(f"claim C{letter} alike A A\n" for letter in "abcdefghi"), 9)):
            self.refused(text, row)

    def test_the_first_row_goes(self):
        self.refused("line A x\nline A x\nline b x", 1)
        self.refused("line A x\nline B x*\nline A y\n", 1)
        self.refused("line A  x\nline A x", 0)


if __name__ == "__main__":
    unittest.main()
