"""Promise [2]: what is handed in stays as it was, what is told is new, and how calls are made."""

import copy
import inspect
import unittest

from helping import S, X, Y, less, plus, times, undo
from nevernought import alike, changes, pages, rooms, shares, sound, squares, steady, tables, terms, tongue, webs, worths
from nevernought.book import Book
from nevernought.desk import Desk
from nevernought.errors import (BadNumber, BadPage, BadSquare, BadTable, BadTables, BadTerm, BadText, BadWeb, NeverError,
                                NoLetter, Unfit, Unsound, Unsteady)
from nevernought.machines import Machine

A = [[(1, 2), (3, 1)], [(-5, 7), (2, 3)]]
B = [[(0, 1), (1, 1)], [(999999999999, 7), (1, 999999999999)]]
C = [[(5, 1)]]
SINGULAR = [[(1, 1), (2, 1)], [(2, 1), (4, 1)]]

# Each call of tables, with its arguments by the names of the interface.
TABLE_CALLS = [
    ("unit", {"size": 3}),
    ("need_table", {"rows": A}),
    ("added", {"one": A, "other": B}),
    ("taken", {"one": A, "other": B}),
    ("product", {"one": A, "other": B}),
    ("scaled", {"one": A, "by": (-2, 9)}),
    ("scaled", {"one": A, "by": (1, 1)}),
    ("turned_back", {"one": A}),
    ("turned_back", {"one": SINGULAR}),
    ("turned_back", {"one": [[(1, 1), (0, 1)], [(0, 1), (1, 1)]]}),
    ("rank", {"one": SINGULAR}),
    ("corners", {"one": A, "other": C}),
]
SHARE_CALLS = [
    ("share", {"top": 6, "bottom": -4}),
    ("plus", {"one": (1, 2), "other": (1, 3)}),
    ("less", {"one": (1, 2), "other": (1, 3)}),
    ("times", {"one": (1, 2), "other": (1, 3)}),
    ("over", {"one": (1, 2), "other": (1, 3)}),
    ("share_text", {"one": (-1, 3)}),
    ("read_share", {"text": "-1/3"}),
]

TERM = plus(undo(times(X, less(Y, S(1, 2)))), Y)
HUA, OTHER = tongue.read_term("~(~x + ~(~y - x))"), tongue.read_term("x - x*y*x")
BAD = undo(less(times(X, Y), times(X, Y)))
AT = {"x": A, "y": B}
ONES = {"x": [[(2, 1)]], "y": [[(3, 1)]]}
FLAT = {"": [[(1, 1), (1, 1)], [(2, 1), (2, 1)]], "x": [[(0, 1), (0, 1)], [(5, 7), (5, 7)]]}
FULL = {"": [[(1, 1), (0, 1)], [(0, 1), (0, 1)]], "x": [[(0, 1), (1, 1)], [(1, 1), (0, 1)]]}
SKEW = webs.web(tongue.read_term("x*y - y*x"))
ROOM = [[(1, 1), (-1, 1)]]
STEADY = tongue.read_term("~(1 - x*y)*(x + 1/2)")
PAGE = "line A x*y\nline B y*x\nline C A - B\nclaim D unlike A B\nclaim E alike C C\n"
BOOK = pages.read_page(PAGE)
MACHINE = steady.machine_of(STEADY)
# Each call of the other modules, likewise.
OTHER_CALLS = [
    (terms, "flaw_of", {"term": TERM}),
    (terms, "parts", {"term": TERM}),
    (terms, "part", {"term": TERM, "place": 2}),
    (terms, "letters", {"term": TERM}),
    (terms, "undoings", {"term": TERM}),
    (tongue, "term_text", {"term": TERM}),
    (tongue, "read_term", {"text": "~(x + 1)*y - (-1/2)*~~x"}),
    (worths, "worth", {"term": TERM, "tables": AT}),
    (worths, "worth", {"term": X, "tables": AT}),
    (worths, "worth", {"term": undo(X), "tables": {"x": SINGULAR}}),
    (webs, "web", {"term": TERM}),
    (webs, "web", {"term": S(1)}),
    (webs, "laid", {"squares": webs.web(TERM), "tables": AT}),
    (webs, "laid", {"squares": webs.web(X), "tables": AT}),
    (rooms, "makes", {"squares": FLAT, "rows": ROOM}),
    (rooms, "makes", {"squares": FULL, "rows": ROOM}),
    (rooms, "is_room", {"squares": FLAT, "rows": ROOM}),
    (rooms, "is_room", {"squares": FULL, "rows": ROOM}),
    (rooms, "lesser_room", {"squares": FLAT}),
    (rooms, "lesser_room", {"squares": FULL}),
    (rooms, "web_rank", {"squares": FLAT}),
    (rooms, "web_rank", {"squares": FULL}),
    (rooms, "web_rank", {"squares": SKEW}),
    (sound, "sound", {"term": TERM}),
    (sound, "sound", {"term": BAD}),
    (sound, "sound_holds", {"term": TERM, "paper": ("sound", AT)}),
    (sound, "sound_holds", {"term": undo(S(0)), "paper": ("unsound", 0, [[(1, 1)]])}),
    (alike, "nought", {"term": TERM}),
    (alike, "nought", {"term": BAD[1]}),
    (alike, "alike", {"one": HUA, "other": OTHER}),
    (alike, "alike", {"one": OTHER, "other": TERM}),
    (alike, "nought_holds", {"term": TERM, "paper": ("else", AT)}),
    (alike, "nought_holds", {"term": S(0), "paper": ("nought", [[(1, 1)]])}),
    (alike, "alike_holds", {"one": X, "other": Y, "paper": ("unlike", ONES)}),
    (alike, "alike_holds", {"one": X, "other": X, "paper": ("alike", [[(1, 1)]])}),
    (alike, "commute", {"one": HUA, "other": OTHER}),
    (alike, "commute", {"one": TERM, "other": OTHER}),
    (squares, "rank_of", {"rows": [[X, Y], [times(Y, X), S(1, 2)]]}),
    (squares, "rank_of", {"rows": [[X, undo(Y)], [times(Y, X), times(Y, undo(Y))]]}),
    (squares, "rank_of", {"rows": [[S(0)]]}),
    (squares, "square_web", {"rows": [[X, undo(Y)], [times(Y, X), S(1, 2)]]}),
    (changes, "put", {"term": TERM, "by": {"x": Y, "y": times(X, Y), "z": S(1)}}),
    (changes, "put", {"term": TERM, "by": {}}),
    (changes, "nudged", {"term": times(undo(Y), X), "letter": "y"}),
    (changes, "turned", {"term": TERM}),
    (steady, "machine_of", {"term": STEADY}),
    (steady, "weights", {"term": STEADY}),
    (steady, "plain", {"term": STEADY}),
    (steady, "plain", {"term": times(X, plus(X, Y))}),
    (pages, "page", {"book": BOOK}),
    (pages, "read_page", {"text": PAGE}),
]
# Each method of a class that asks, with its arguments by the names of the interface.
ASKING = [
    (MACHINE, "letters", {}), (MACHINE, "begin", {}), (MACHINE, "end", {}), (MACHINE, "steps", {"letter": "x"}),
    (MACHINE, "weight", {"word": ("x", "y", "x")}), (MACHINE, "least", {}), (MACHINE, "plus", {"other": MACHINE}),
    (MACHINE, "times", {"other": MACHINE}), (MACHINE, "unlike", {"other": MACHINE}),
    (MACHINE, "unlike", {"other": Machine([], [], {}, [])}), (BOOK, "steps", {}), (BOOK, "names", {}), (BOOK, "claims", {}),
    (BOOK, "text_of", {"name": "C"}), (BOOK, "term_of", {"name": "C"}), (BOOK, "leaning", {"name": "A"}),
    (BOOK, "claim", {"name": "D"}), (BOOK, "paper", {"name": "D"}), (BOOK, "paper", {"name": "E"}), (BOOK, "twin", {}),
    (Desk(book=BOOK), "say", {"line": "text C"}),
]


def as_tuples(thing):
    """The same with tuples in place of all lists."""
    if isinstance(thing, dict):
        return {key: as_tuples(thing[key]) for key in thing}
    if isinstance(thing, (list, tuple)):
        return tuple(as_tuples(part) for part in thing)
    return thing


def within(thing):
    """What stands right in a list, a tuple or a dict; nothing in others."""
    if isinstance(thing, dict):
        return [*thing, *thing.values()]
    return list(thing) if isinstance(thing, (list, tuple)) else []


def lists_in(thing):
    """The identities of all lists and dicts within a thing."""
    found = [id(thing)] if isinstance(thing, (list, dict)) else []
    for part in within(thing):
        found += lists_in(part)
    return found


def emptied(thing):
    """Empties all lists and dicts within a thing."""
    for part in within(thing):
        emptied(part)
    if isinstance(thing, (list, dict)):
        thing.clear()


def kinds_in(thing):
    """The kinds of a thing and of all within it."""
    return (type(thing), [kinds_in(part) for part in within(thing)])


def all_calls():
    for home, calls in ((shares, SHARE_CALLS), (tables, TABLE_CALLS)):
        for name, told in calls:
            yield getattr(home, name), told
    for home, name, told in OTHER_CALLS + ASKING:
        yield getattr(home, name), told


class Handling(unittest.TestCase):
    def test_handed_in_stays_as_it_was(self):
        for work, told in all_calls():
            with self.subTest(work.__name__):
                before = copy.deepcopy(told)
                work(**told)
                self.assertEqual(told, before)
                self.assertEqual(kinds_in(list(told.values())), kinds_in(list(before.values())))

    def test_refused_stays_as_it_was(self):
        one, other, rows = copy.deepcopy(A), copy.deepcopy(C), [[(1, 1), (1, 1)], [(1, 1)]]
        for work in (tables.added, tables.taken, tables.product):
            self.assertRaises(Unfit, work, one, other)
        self.assertRaises(BadTable, tables.need_table, rows)
        self.assertEqual((one, other, rows), (A, C, [[(1, 1), (1, 1)], [(1, 1)]]))

    def test_told_lists_are_new(self):
        for work, told in all_calls():
            with self.subTest(work.__name__):
                first, second = work(**told), work(**told)
                found = lists_in(first) + lists_in(second) + lists_in(list(told.values()))
                self.assertEqual(len(found), len(set(found)))

    def test_told_lists_may_be_changed(self):
        for work, told in all_calls():
            with self.subTest(work.__name__):
                answer = work(**told)
                right = copy.deepcopy(answer)
                emptied(answer)
                self.assertEqual(work(**told), right)

    def test_handed_in_may_be_changed_later(self):
        for work, told in all_calls():
            with self.subTest(work.__name__):
                handed = copy.deepcopy(told)
                answer = work(**handed)
                right = copy.deepcopy(answer)
                emptied(handed)
                self.assertEqual(answer, right)

    def check_rows(self, rows, width):
        share = kinds_in((1, 1))
        self.assertEqual(kinds_in(rows), (list, [(list, [share] * width)] * len(rows)))

    def check_tables(self, told):
        self.assertIsInstance(told, dict)
        for rows in told.values():
            self.check_rows(rows, len(rows))

    def test_tables_are_lists_of_lists_of_tuples(self):
        for name, told in TABLE_CALLS:
            answer = getattr(tables, name)(**told)
            if isinstance(answer, list):
                self.check_rows(answer, len(answer))

    def test_kinds_of_what_is_told(self):
        self.check_rows(worths.worth(TERM, AT), 2)
        self.check_tables(webs.web(TERM))
        self.check_rows(webs.laid(webs.web(X), AT), 2)
        self.check_rows(rooms.lesser_room(FLAT), 2)
        for some in (FLAT, FULL, SKEW):
            rank, rows, told = rooms.web_rank(some)
            self.assertIs(type(rank), int)
            self.check_rows(rows, len(some[""]))
            self.check_tables(told)
        self.check_tables(sound.sound(TERM)[1])
        self.check_rows(sound.sound(BAD)[2], 3)
        self.check_tables(alike.nought(TERM)[1])
        self.check_rows(alike.nought(BAD[1])[1], 3)
        self.check_rows(alike.alike(HUA, OTHER)[1], 7)
        self.check_tables(alike.alike(TERM, OTHER)[1])
        self.check_tables(squares.square_web([[X, undo(Y)], [times(Y, X), S(1, 2)]]))
        rank, rows, told = squares.rank_of([[X, undo(Y)], [times(Y, X), times(Y, undo(Y))]])
        self.assertEqual((type(rank), rank), (int, 1))
        self.check_rows(rows, 6)
        self.check_tables(told)
        for work, told in all_calls():
            if work.__name__.startswith("is_") or work.__name__.endswith("_holds") or work.__name__ == "commute":
                self.assertIs(type(work(**told)), bool)
        self.assertEqual(kinds_in(tongue.read_term("x + 1/2")), kinds_in(plus(X, S(1, 2))))
        self.assertIs(type(terms.letters(TERM)), list)
        self.assertIs(type(terms.undoings(TERM)), list)

    def test_tuples_in_place_of_lists(self):
        for work, told in all_calls():
            with self.subTest(work.__name__):
                answer = work(**{name: as_tuples(value) for name, value in told.items()})
                self.assertEqual(answer, work(**told))
                self.assertEqual(kinds_in(answer), kinds_in(work(**told)))
        self.assertEqual(tables.rank([((1, 1), (2, 1)), [(2, 1), (4, 1)]]), 1)

    def test_by_place_and_by_name(self):
        for work, told in all_calls():
            with self.subTest(work.__name__):
                names = list(told)
                answer = work(*told.values())
                self.assertEqual(work(**told), answer)
                self.assertEqual(work(**{name: told[name] for name in reversed(names)}), answer)
                self.assertEqual(work(*[told[name] for name in names[:1]], **{name: told[name] for name in names[1:]}), answer)
                told_names = inspect.signature(work).parameters
                self.assertEqual([name for name in told_names if told_names[name].kind == inspect.Parameter.POSITIONAL_OR_KEYWORD],
                                 names)

    def test_what_has_a_default_may_be_left_out(self):
        self.assertEqual(shares.share(top=4), (4, 1))
        self.assertEqual(inspect.signature(shares.share).parameters["bottom"].default, 1)
        self.assertEqual(changes.nudged(X, "x"), S(1))
        self.assertEqual(inspect.signature(changes.nudged).parameters["by"].default, S(1))
        self.assertEqual(steady.weights(STEADY), steady.weights(STEADY, most=3))
        self.assertEqual(Desk().book, Desk(book=None).book)

    def test_what_stands_behind_a_star_is_handed_in_by_its_name(self):
        self.assertEqual(changes.nudged(by=Y, letter="x", term=X), Y)
        self.assertRaises(TypeError, changes.nudged, X, "x", Y)
        self.assertEqual(steady.weights(most=0, term=STEADY), [((), (1, 2))])
        self.assertRaises(TypeError, steady.weights, STEADY, 2)
        self.assertRaises(TypeError, Desk, BOOK)

    def test_asked_again_the_same_is_told(self):
        for work, told in all_calls():
            self.assertEqual(work(**told), work(**copy.deepcopy(told)))

    def test_the_order_of_dicts_is_no_matter(self):
        for work, told in all_calls():
            turned = {name: dict(reversed(list(value.items()))) if isinstance(value, dict) else value
                      for name, value in told.items()}
            self.assertEqual(work(**turned), work(**told))

    def test_refused_dicts_stay_as_they_were(self):
        unlike = {"x": A, "y": C}
        bent = {"": A, "x": C}
        for refusal, work, handed in (
                (BadTables, worths.worth, (X, unlike)), (NoLetter, worths.worth, (X, {"y": A})),
                (BadTables, webs.laid, (SKEW, unlike)), (NoLetter, webs.laid, (SKEW, {"y": A})),
                (BadWeb, rooms.makes, (bent, ROOM)), (BadWeb, rooms.is_room, (bent, ROOM)),
                (BadWeb, rooms.lesser_room, (bent,)), (BadWeb, rooms.web_rank, (bent,)),
                (BadTerm, sound.sound_holds, ([X], ("sound", unlike))), (BadTerm, alike.alike, ([X], X)),
                (Unsound, alike.nought_holds, (BAD, ("else", unlike))), (BadNumber, terms.part, (X, 1)),
                (BadText, tongue.read_term, ("x y",)), (BadSquare, squares.rank_of, ([[X, Y], [X]],)),
                (BadSquare, squares.square_web, ([[X], [X]],)), (BadTerm, squares.rank_of, ([[X, [X]]],)),
                (Unsound, squares.rank_of, ([[X, BAD], [X, Y]],)), (BadTerm, changes.put, (X, {"y": [X], "x": X})),
                (BadTerm, changes.put, (BAD, {"x": BAD, "y": BAD})), (BadTerm, changes.nudged, ([X], "x")),
                (BadTerm, changes.turned, ([X],)), (Unsteady, steady.machine_of, (undo(X),)), (BadTerm, steady.plain, ([X],)),
                (BadPage, pages.read_page, (PAGE + "x",))):
            before = copy.deepcopy(handed)
            for _ in range(2):
                with self.assertRaises(refusal) as caught:
                    work(*handed)
                self.assertEqual(caught.exception.word, refusal.__name__)
                self.assertIsInstance(caught.exception, (NeverError, LookupError))
            self.assertEqual(handed, before)
            self.assertEqual(kinds_in(handed), kinds_in(before))


class Objects(unittest.TestCase):
    """Machines and books are not changed by asking, nor by turns."""

    def test_asking_changes_nothing(self):
        four = (MACHINE.letters(), MACHINE.begin(), {name: MACHINE.steps(name) for name in MACHINE.letters()}, MACHINE.end())
        for home, name, told in ASKING:
            getattr(home, name)(**told)
        self.assertEqual(Machine(*four), MACHINE)
        self.assertEqual((pages.page(BOOK), BOOK.steps(), BOOK), (PAGE, (0, 0), pages.read_page(PAGE)))

    def test_by_turns(self):
        first = [work(**told) for work, told in all_calls()]
        for _ in range(2):
            again = [work(**told) for work, told in reversed(list(all_calls()))]
            self.assertEqual(again[::-1], first)

    def test_two_by_turns(self):
        one, other = Book(), Book()
        for at, name in enumerate(["A", "B", "C"]):
            one.do(("line", name, "x" if at == 0 else "A + 1"))
            other.do(("line", name, "y" if at == 0 else "A*A"))
        self.assertEqual([one.text_of(name) for name in "ABC"], ["x", "A + 1", "A + 1"])
        self.assertEqual([other.text_of(name) for name in "ABC"], ["y", "A*A", "A*A"])
        one.undo()
        self.assertEqual((one.steps(), other.steps()), ((2, 1), (3, 0)))

    def test_what_a_book_told_may_be_changed(self):
        book = pages.read_page(PAGE)
        for told in (book.names(), book.claims(), book.leaning("A"), book.paper("E")[1], book.paper("D")[1]):
            emptied(told)
        self.assertEqual((pages.page(book), book.paper("E"), book.paper("D")), (PAGE, BOOK.paper("E"), BOOK.paper("D")))


class HandedOn(unittest.TestCase):
    """What the program told goes in again, however great it has grown."""

    def test_shares(self):
        one = shares.share(10 ** 40 - 1, 10 ** 39 + 7)
        for _ in range(8):
            one = shares.times(one, one)
        self.assertGreater(one[0], 10 ** 9000)
        self.assertEqual(shares.over(one, one), (1, 1))
        self.assertEqual(shares.less(one, one), (0, 1))
        self.assertEqual(shares.less(shares.plus(one, (1, 3)), one), (1, 3))
        above, slash, below = shares.share_text(one).partition("/")
        self.assertEqual(slash, "/")
        self.assertTrue(above.isdigit() and below.isdigit())
        self.assertEqual(int(above[-9:]), one[0] % 10 ** 9)
        self.assertEqual(int(below[-9:]), one[1] % 10 ** 9)

    def test_tables(self):
        one = B
        for _ in range(6):
            one = tables.product(one, one)
        self.assertGreater(one[1][1][1], 10 ** 300)
        self.assertEqual(tables.product(one, tables.turned_back(one)), tables.unit(2))
        self.assertEqual(tables.turned_back(tables.turned_back(one)), one)
        self.assertEqual(tables.rank(one), 2)
        self.assertEqual(tables.rank(tables.corners(one, SINGULAR)), 3)
        self.assertEqual(tables.taken(tables.added(one, A), A), one)
        self.assertEqual(tables.scaled(tables.scaled(one, one[0][0]), shares.over((1, 1), one[0][0])), one)

    def test_worths_and_webs(self):
        great = worths.worth(tongue.read_term("~(x + 1/7)*x*y*~(y - 3)*x*y"), AT)
        self.assertGreater(great[0][0][1], 10 ** 20)
        again = worths.worth(TERM, {"x": great, "y": B})
        self.assertGreater(again[0][0][1], 10 ** 40)
        squares = {"": great, "x": again}
        self.assertEqual(rooms.web_rank(squares)[0], 2)
        flat = {letter: [squares[letter][0]] * 2 for letter in squares}
        self.assertEqual(rooms.web_rank(flat)[0], 1)
        self.assertTrue(rooms.is_room(flat, rooms.lesser_room(flat)))
        self.assertEqual(len(webs.laid(squares, {"x": great})), 4)
        self.assertTrue(sound.sound_holds(TERM, ("sound", {"x": great, "y": again})))

    def test_tables_of_papers(self):
        paper = alike.alike(times(X, Y), times(Y, X))
        for made in (sound.sound(TERM)[1], paper[1], rooms.web_rank(SKEW)[2]):
            told = worths.worth(less(times(X, Y), times(Y, X)), made)
            self.assertEqual(len(told), len(made["x"]))
            self.assertEqual(tables.rank(webs.laid(webs.web(TERM), made)), 3 * len(told))

    def test_sizes(self):
        one = A
        for _ in range(3):
            one = tables.corners(one, one)
        self.assertEqual(len(one), 16)
        self.assertEqual(tables.product(tables.turned_back(one), one), tables.unit(16))
        self.assertEqual(tables.rank(tables.corners(one, tables.unit(40))), 56)


if __name__ == "__main__":
    unittest.main()
