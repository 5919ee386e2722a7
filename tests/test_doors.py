"""Promises [2] and [5] over the whole program: what is no reckoning at every door, and a cause for each refusal."""

import inspect
import unittest

from helping import S, W, X, Y, Z, less, plus, times, undo, undone, whole
from nevernought import errors
from nevernought.alike import alike, alike_holds, commute, nought, nought_holds
from nevernought.book import Book
from nevernought.changes import nudged, put, turned
from nevernought.machines import Machine
from nevernought.pages import read_page
from nevernought.rooms import web_rank
from nevernought.shares import over, read_share
from nevernought.sound import sound, sound_holds
from nevernought.squares import rank_of, square_web
from nevernought.steady import machine_of, plain, weights
from nevernought.tables import added, need_table, unit
from nevernought.terms import flaw_of, letters, part, parts, undoings
from nevernought.tongue import read_term, term_text
from nevernought.webs import web
from nevernought.worths import worth

V = ("letter", "v")
BAD = undo(S(0))
FIVE = plus(plus(plus(X, Y), plus(Z, W)), V)
UNFIT = {"x": unit(1), "y": unit(2)}


def nested(many):
    """A tuple within so many others that is no part."""
    told = ("share", (2, 4))
    for _ in range(many):
        told = ("undo", told)
    return told


# Things that aren't built as reckonings, some of them too great, of too many letters and too deep besides.
FORMLESS = [
    "", "x", "letter", 0, 1, -7, None, (), ("x",), ("letter",), ("letter", ""), ("letter", "X"), ("letter", "abcdefg"), ("letter", 1),
    ("letter", None), ("letter", "x", "y"), ("letter", ("x",)), ("letter", "a b"), ("share",), ("share", 1), ("share", (1,)),
    ("share", (1, 1, 1)), ("share", (2, 4)), ("share", (1, 0)), ("share", (1, -1)), ("share", (0, 2)), ("share", (True, 1)),
    ("share", (1, True)), ("share", ("1", "1")), ("share", (1, 1), X), ("share", None), ("share", (10 ** 12, 1)), ("share", (1, 10 ** 12)),
    ("plus", X), ("plus", X, Y, Z), ("plus",), ("plus", X, "y"), ("plus", None, X), ("less", X, 5), ("times", (), X), ("times", X, ("y",)),
    ("undo",), ("undo", X, Y), ("undo", None), ("undo", "x"), ("name", "A"), ("undo", ("name", "A")), ("Plus", X, Y), ("over", X, Y),
    (X,), (X, Y), ("plus", X, Y, ()), (None, X), (1, X), ((), X, Y), ("undo", X, None), plus(FIVE, "y"), undone("x", 30), undone(None, 5),
    nested(25), nested(55), plus(undone(X, 30), nested(0)), times(nested(5), FIVE), undone(plus(FIVE, ("share", (3, 6))), 20),
]
FLAWED = [(undone(X, 24), "many"), (undone(FIVE, 20), "many"), (undone(plus(X, Y), 22), "many"), (undone(FIVE, 5), "letters"), (FIVE, "letters"),
          (undone(X, 5), "deep"), (times(S(1), undone(X, 5)), "deep"), (undone(X, 4), None),
          (read_term("x*x*x*x*x*x*x*x*x*x*x*x"), None), (undo(read_term("x*x*x*x*x*x*x*x*x*x*x*x")), None)]

# Each door by which a reckoning comes in, with what else is due there; a text is its name in the tests.
DOORS = {
    "parts": parts, "part": lambda term: part(term, 0), "part beyond": lambda term: part(term, 99), "part below": lambda term: part(term, -1),
    "letters": letters, "undoings": undoings, "term_text": term_text, "worth": lambda term: worth(term, {}),
    "worth at unfit tables": lambda term: worth(term, UNFIT), "web": web, "sound": sound,
    "sound_holds": lambda term: sound_holds(term, ("sound", {})), "sound_holds of no paper": lambda term: sound_holds(term, ("", 0, [])),
    "nought": nought, "nought_holds": lambda term: nought_holds(term, ("nought", [])), "alike": lambda term: alike(term, X),
    "alike second": lambda term: alike(X, term), "alike beside unsound": lambda term: alike(BAD, term),
    "alike ahead of unsound": lambda term: alike(term, BAD), "alike_holds": lambda term: alike_holds(term, X, ("alike", [])),
    "alike_holds second": lambda term: alike_holds(BAD, term, ("unlike", {})), "commute": lambda term: commute(term, X),
    "commute second": lambda term: commute(BAD, term), "rank_of": lambda term: rank_of([[term]]),
    "rank_of beside unsound": lambda term: rank_of([[BAD, term], [X, X]]), "rank_of of no square": lambda term: rank_of([[X], [term]]),
    "rank_of of four": lambda term: rank_of([[X, X, X, X], [X], [], [term]]), "square_web": lambda term: square_web([[term]]),
    "square_web of no square": lambda term: square_web([[X, term], []]), "put": lambda term: put(term, {}),
    "put by": lambda term: put(X, {"x": term}), "put by another": lambda term: put(X, {"a": X, "y": term}),
    "put with more to refuse": lambda term: put(undone(X, 4), {"a": term, "x": undone(X, 4)}), "nudged": lambda term: nudged(term, "x"),
    "nudged by": lambda term: nudged(X, "y", by=term), "nudged with more to refuse": lambda term: nudged(undone(X, 4), "x", by=term),
    "turned": turned, "machine_of": machine_of, "weights": weights, "weights of too many": lambda term: weights(term, most=6),
    "weights of too few": lambda term: weights(term, most=-1), "plain": plain,
}


class Doors(unittest.TestCase):
    def check(self, term, flaw):
        for name, door in DOORS.items():
            with self.subTest(name, term=term):
                with self.assertRaises(errors.BadTerm) as caught:
                    door(term)
                self.assertEqual((caught.exception.word, caught.exception.flaw), ("BadTerm", flaw))

    def test_form(self):
        for term in FORMLESS:
            self.assertEqual(flaw_of(term), "form", term)
            self.check(term, "form")

    def test_many_letters_and_deep(self):
        for term, flaw in FLAWED:
            self.assertEqual(flaw_of(term), flaw, term)
            if flaw is not None:
                self.check(term, flaw)

    def test_reckonings_go_through(self):
        for term in (X, S(1, 2), plus(X, Y), undo(plus(S(1), X)), read_term("x + y*z - w")):
            for name, door in DOORS.items():
                try:
                    door(term)
                except (errors.NeverError, errors.Missing) as refusal:
                    self.assertTrue(refusal.word != "BadTerm" or name.endswith("with more to refuse"), name)


class Causes(unittest.TestCase):
    """One cause for each refusal of the program."""

    CAUSES = {
        "BadShare": (lambda: read_share("2/4"), {}), "ByNought": (lambda: over((1, 1), (0, 1)), {}),
        "BadTable": (lambda: need_table([[(1, 1)], [(1, 1)]]), {"at": 0}), "Unfit": (lambda: added(unit(1), unit(2)), {}),
        "BadTerm": (lambda: parts(FIVE), {"flaw": "letters"}), "BadTables": (lambda: worth(X, UNFIT), {"letter": "y"}),
        "BadText": (lambda: read_term("x y"), {"at": 2}), "BadWeb": (lambda: web_rank({"": unit(2), "x": unit(1)}), {"letter": "x"}),
        "BadSquare": (lambda: rank_of([[X, Y]]), {}), "Unsound": (lambda: alike(X, BAD), {"which": 1, "place": 0}),
        "Unsteady": (lambda: machine_of(undo(X)), {"place": 0}), "BadNumber": (lambda: part(X, 1), {"number": 1}),
        "BadMachine": (lambda: Machine([], [(1, 1)], {}, []), {}), "BadName": (lambda: Book().do(("line", "a", "x")), {"name": "a"}),
        "BadWord": (lambda: Book().do(("claim", "A", "like", "B", "C")), {"word_told": "like"}),
        "Taken": (lambda: stood().do(("line", "K", "x")), {"name": "K"}),
        "Full": (lambda: stood(*[("line", f"L{letter}", "x") for letter in "abcdefghijk"]), {"most": 12}),
        "Ring": (lambda: stood().do(("line", "A", "B")), {"name": "A"}), "InUse": (lambda: stood().do(("drop", "A")), {"name": "B"}),
        "Breaks": (lambda: stood().do(("line", "B", "y")), {"name": "K"}), "NotSo": (lambda: stood().do(("claim", "N", "unlike", "A", "B")), {}),
        "BadDeed": (lambda: Book().do(("undo",)), {}), "Stopped": (lambda: Book().together([("undo",)]), {"at": 0, "why": "BadDeed"}),
        "BadPage": (lambda: read_page("line A x\n\n"), {"row": 1}), "NoLetter": (lambda: worth(X, {}), {"letter": "x"}),
        "NoName": (lambda: Book().text_of("A"), {"name": "A"}), "NothingLeft": (lambda: Book().undo(), {}),
    }

    def test_each_of_them(self):
        for name, (cause, fields) in self.CAUSES.items():
            kind = getattr(errors, name)
            with self.subTest(name):
                for _ in range(2):
                    with self.assertRaises(kind) as caught:
                        cause()
                    told = caught.exception
                    self.assertIs(type(told), kind)
                    self.assertEqual({field: getattr(told, field) for field in vars(told)}, {"word": name, **fields})
                    missing = name in ("NoLetter", "NoName", "NothingLeft")
                    self.assertEqual(kind.__bases__, (errors.Missing if missing else errors.NeverError,))
                    self.assertIsInstance(told, LookupError if missing else ValueError)

    def test_none_is_left_out(self):
        told = {name for name, kind in vars(errors).items() if inspect.isclass(kind)}
        self.assertEqual(told, {"NeverError", "Missing", *self.CAUSES})


def stood(*deeds):
    """A book with two lines and a claim, and what these deeds bring."""
    book = Book()
    for deed in (("line", "A", "x"), ("line", "B", "A"), ("claim", "K", "alike", "A", "B"), *deeds):
        book.do(deed)
    return book


# The interface: for each module its functions with their parameters, for each class its methods.
INTERFACE = {
    "shares": ["share(top, bottom=1)", "plus(one, other)", "less(one, other)", "times(one, other)", "over(one, other)", "share_text(one)",
               "read_share(text)"],
    "tables": ["unit(size)", "need_table(rows)", "added(one, other)", "taken(one, other)", "product(one, other)", "scaled(one, by)",
               "turned_back(one)", "rank(one)", "corners(one, other)"],
    "terms": ["flaw_of(term)", "parts(term)", "part(term, place)", "letters(term)", "undoings(term)"],
    "tongue": ["term_text(term)", "read_term(text)"],
    "worths": ["worth(term, tables)"],
    "webs": ["web(term)", "laid(squares, tables)"],
    "rooms": ["makes(squares, rows)", "is_room(squares, rows)", "lesser_room(squares)", "web_rank(squares)"],
    "sound": ["sound(term)", "sound_holds(term, paper)"],
    "alike": ["nought(term)", "alike(one, other)", "nought_holds(term, paper)", "alike_holds(one, other, paper)", "commute(one, other)"],
    "squares": ["rank_of(rows)", "square_web(rows)"],
    "changes": ["put(term, by)", "nudged(term, letter, *, by=('share', (1, 1)))", "turned(term)"],
    "machines": ["Machine(letters, begin, steps, end)"],
    "steady": ["machine_of(term)", "weights(term, *, most=3)", "plain(term)"],
    "book": ["Book()"],
    "pages": ["page(book)", "read_page(text)"],
    "desk": ["Desk(*, book=None)"],
}
METHODS = {
    "machines.Machine": ["letters(self)", "begin(self)", "end(self)", "steps(self, letter)", "weight(self, word)", "least(self)",
                         "plus(self, other)", "times(self, other)", "unlike(self, other)"],
    "book.Book": ["do(self, deed)", "together(self, deeds)", "undo(self)", "redo(self)", "steps(self)", "names(self)", "claims(self)",
                  "text_of(self, name)", "term_of(self, name)", "leaning(self, name)", "claim(self, name)", "paper(self, name)", "twin(self)"],
    "desk.Desk": ["say(self, line)"],
}
CONSTANTS = {"tables": {"MOST_SIZE": 4}, "terms": {"MOST_PARTS": 24, "MOST_LETTERS": 4, "MOST_DEEP": 4},
             "book": {"MOST_LINES": 12, "MOST_CLAIMS": 8}}


class Interface(unittest.TestCase):
    def home(self, name):
        return __import__(f"nevernought.{name}", fromlist=["home"])

    def test_functions_and_classes(self):
        for module, told in INTERFACE.items():
            for text in told:
                name = text.partition("(")[0]
                made = getattr(self.home(module), name)
                self.assertEqual(name + str(inspect.signature(made)), text)
                self.assertEqual(made.__module__, f"nevernought.{module}")

    def test_methods_stand_in_the_classes_themselves(self):
        for place, told in METHODS.items():
            module, dot, name = place.partition(".")
            made = getattr(self.home(module), name)
            for text in told:
                method = text.partition("(")[0]
                self.assertIn(method, vars(made))
                self.assertEqual(method + str(inspect.signature(vars(made)[method])), text)

    def test_constants(self):
        for module, told in CONSTANTS.items():
            for name, value in told.items():
                self.assertEqual(getattr(self.home(module), name), value)

    def test_whole_program(self):
        """The head of the document: from reckonings to papers, machines and books."""
        one, other = read_term("~x*(x + y)*~y"), read_term("~x + ~y")
        self.assertTrue(alike_holds(one, other, alike(one, other)))
        self.assertTrue(nought_holds(less(one, one), nought(less(one, one))))
        self.assertEqual(machine_of(read_term("x*~(1 - y*x)")), machine_of(read_term("~(1 - x*y)*x")))
        self.assertEqual(whole([[1]]), [[(1, 1)]])


if __name__ == "__main__":
    unittest.main()
