"""Promise [13]: squares of reckonings, their webs and their ranks."""

import random
import time
import unittest

from helping import (PRIME, Fields, Residues, S, W, X, Y, Z, fractions, is_sound, less, plain_is_room, plain_laid,
                     plain_made, plain_rank, plain_worth, plus, some_term, times, undo, undone, whole)
from nevernought.errors import BadSquare, BadTerm, Unsound
from nevernought.rooms import is_lesser_room, web_rank
from nevernought.squares import rank_of, square_web
from nevernought.tables import rank, unit
from nevernought.terms import letters, parts
from nevernought.tongue import read_term
from nevernought.webs import laid, web
from nevernought.worths import worth

COMMUTATOR = "(x*y - y*x)*(x*y - y*x)"
# Each square with its rank.
SQUARES = [
    (0, [["0"]]), (1, [["1"]]), (1, [["x"]]), (0, [["x - x"]]), (0, [["~x*x - 1"]]), (1, [["x*y - y*x"]]),
    (0, [["x*~(x + y)*y - y*~(x + y)*x"]]), (1, [["~(x*y - y*x)"]]), (1, [["-7/3"]]),
    (0, [["0", "0"], ["0", "x - x"]]), (2, [["1", "0"], ["0", "1"]]), (1, [["1", "2"], ["2", "4"]]),
    (2, [["x", "y"], ["y", "x"]]), (2, [["1", "2"], ["2", "5"]]), (1, [["x", "0"], ["y", "0"]]),
    (1, [["x", "y"], ["0", "0"]]), (2, [["0", "y"], ["x", "0"]]), (1, [["x", "x"], ["y", "y"]]),
    (1, [["x", "y"], ["x", "y"]]), (1, [["x", "y"], ["z*x", "z*y"]]), (2, [["x", "y"], ["x*z", "y*z"]]),
    (1, [["x", "y"], ["~z*x", "~z*y"]]), (1, [["x", "x*z"], ["y", "y*z"]]), (2, [["x", "z*x"], ["y", "z*y"]]),
    (1, [["1", "x"], ["y", "y*x"]]), (2, [["1", "x"], ["y", "x*y"]]), (1, [["~x", "1"], ["1", "x"]]),
    (2, [["~x", "1"], ["2", "x"]]), (2, [["x", "1"], ["1", "~x + 1"]]), (1, [["x", "y"], ["~x*y*x", "~x*y*y"]]),
    (1, [["x + y", "x + y"], ["x + y", "y + x"]]), (1, [["~(x*y - y*x)", "1"], ["1", "x*y - y*x"]]),
    (0, [["x - x"] * 3] * 3), (1, [["x", "y", "z"]] * 3), (1, [["x"] * 3, ["y"] * 3, ["z"] * 3]),
    (3, [["1", "0", "0"], ["0", "1", "0"], ["0", "0", "1"]]), (3, [["x", "y", "z"], ["z", "x", "y"], ["y", "z", "x"]]),
    (2, [["x", "y", "z"], ["y", "z", "x"], ["x + y", "y + z", "z + x"]]),
    (2, [["x", "y", "z"], ["1", "2", "3"], ["x - w", "y - w*2", "z - w*3"]]),
    (3, [["0", "x", "y"], ["0 - x", "0", "z"], ["0 - y", "0 - z", "0"]]),
    (2, [["1", "2", "3"], ["4", "5", "6"], ["7", "8", "9"]]), (3, [["1", "2", "3"], ["4", "5", "6"], ["7", "8", "10"]]),
    (2, [["x", "0", "0"], ["0", "0", "0"], ["0", "0", "~x"]]), (2, [["0", "0", "x"], ["0", "0", "y"], ["z", "w", "0"]]),
    (2, [["0", "x", "y"], ["z", "0", "0"], ["w", "0", "0"]]), (3, [["1", "x", "y"], ["y", "x*y", "0"], ["0", "0", "~x"]]),
    (2, [["1", "z"], [COMMUTATOR, f"z*({COMMUTATOR})"]]), (1, [["1", "z"], [COMMUTATOR, f"{COMMUTATOR}*z"]]),
]
# Of these tables of size 1 show too small a rank, of the last one tables of size 2, too.
GREATER = [(2, [["1", "x"], ["y", "x*y"]]), (2, [["x", "y"], ["x*z", "y*z"]]), (1, [["x*y - y*x"]]),
           (2, [["x", "y*x"], ["1", "y"]]), (2, [["x", "z*x"], ["y", "z*y"]]),
           (3, [["0", "x", "y"], ["0 - x", "0", "z"], ["0 - y", "0 - z", "0"]]),
           (2, [["1", "z"], [COMMUTATOR, f"z*({COMMUTATOR})"]])]
GREATEST = [
    [["~~~~x*~~~~y*~~~~z*~~~~w", "~~~x"], ["~~~y", "~~~z"]], [["~~~x"] * 3] * 3, [["~~~x", "~~~y", "~~~z"]] * 3,
    [["~~~x", "~~~y", "~~~z"], ["~~~w", "~~~x", "~~~y"], ["~~~z", "~~~w", "~~~x"]],
    [["x*~y", "y*~x", "z*~w"], ["w*~x", "z*~y", "z*~w"], ["x*~w", "w*~x", "z*~z"]],
    [["~(x - 999999999999/999999999998)*y", "~(~(x*y - y*x) - ~z)*w"], ["~~(x*~y)*2", "111111111112/7*~(x - w)*y"]],
    [["x*y*z*w*x*y*z*w*x*y*z", "~~(x*y - y*x)"], ["w*~x", "~x"]],
    [["~(x*y - y*x)", "~(y*z - z*y)"], ["~(z*w - w*z)", "~(w*x - x*w)*1"]],
]


def read(rows):
    return [[read_term(text) for text in row] for row in rows]


def terms_of(rows):
    return [term for row in rows for term in row]


def letters_of(rows):
    return sorted({letter for term in terms_of(rows) for letter in letters(term)})


def laid_worths(rows, tables, size, field):
    """The worths of a square laid as they stand, or None."""
    worths = [[plain_worth(term, tables, size, field) for term in row] for row in rows]
    if any(one is None for row in worths for one in row):
        return None
    return [[number for one in row for number in one[k]] for row in worths for k in range(size)]


def thrown_rank(chance, rows):
    """The rank by tables of residues that were thrown."""
    told = 0
    for size in (1, 2, 3, 4):
        for _ in range(2):
            tables = {letter: [[chance.randrange(PRIME) for _ in range(size)] for _ in range(size)]
                      for letter in letters_of(rows)}
            worths = laid_worths(rows, tables, size, Residues)
            if worths is not None:
                told = max(told, plain_rank(worths, Residues) // size)
    return told


def plain_square_web(rows):
    """The web of a square, put together from the webs of its reckonings."""
    webs = [[web(term) for term in row] for row in rows]
    inner = sum(len(one[""]) - 1 for row in webs for one in row)
    size = inner + len(rows)
    told = {letter: [[(0, 1)] * size for _ in range(size)] for letter in ["", *letters_of(rows)]}
    by = 0
    for i, row in enumerate(webs):
        for j, one in enumerate(row):
            last = len(one[""]) - 1
            for letter, square in one.items():
                for a in range(last + 1):
                    for b in range(last + 1):
                        high = by + a if a < last else inner + i
                        wide = by + b if b < last else inner + j
                        told[letter][high][wide] = square[a][b]
            by += last
    return {letter: told[letter] for letter in told
            if letter == "" or any(one != (0, 1) for row in told[letter] for one in row)}


class Checks(unittest.TestCase):
    def check(self, rows):
        """Goes through all that rank_of tells, and tells the rank."""
        told = rank_of(rows)
        self.assertIsInstance(told, tuple)
        many, room, tables = told
        squares = square_web(rows)
        size = max([len(table) for table in tables.values()], default=1)
        self.assertEqual(sorted(tables), letters_of(rows))
        for table in tables.values():
            self.assertEqual([len(row) for row in table], [size] * size)
        worths = laid_worths(rows, {letter: fractions(tables[letter]) for letter in tables}, size, Fields)
        self.assertIsNotNone(worths)
        self.assertEqual(plain_rank(worths), many * size)
        lack = len(rows) - many
        if lack == 0:
            self.assertEqual(room, [])
        else:
            self.assertTrue(plain_is_room(squares, room))
            self.assertTrue(is_lesser_room(squares, room))
            self.assertEqual(plain_rank(plain_made(squares, room)), len(room) - lack)
        return told


class Ranks(Checks):
    def test_by_hand(self):
        for right, rows in SQUARES:
            self.assertEqual(self.check(read(rows))[0], right, rows)

    def test_all_ranks_of_all_sizes_are_among_these(self):
        self.assertEqual({(len(rows), right) for right, rows in SQUARES},
                         {(many, right) for many in (1, 2, 3) for right in range(many + 1)})

    def test_greater_tables_alone_show_it(self):
        for right, rows in GREATER:
            rows = read(rows)
            many, room, tables = self.check(rows)
            size = len(next(iter(tables.values())))
            self.assertEqual((many, size > 1), (right, True))
            chance = random.Random(40)
            for _ in range(10):
                ones = {letter: [[chance.randrange(PRIME)]] for letter in letters_of(rows)}
                worths = laid_worths(rows, ones, 1, Residues)
                self.assertTrue(worths is None or plain_rank(worths, Residues) < right)
        self.assertGreater(size, 2)

    def test_thrown(self):
        chance = random.Random(41)
        seen = {}
        for _ in range(150):
            many = chance.randint(1, 3)
            rows = [[some_term(chance, chance.randint(1, 4), "xy", deep=2) for _ in range(many)] for _ in range(many)]
            if many > 1 and chance.random() < 0.6:
                by = chance.choice([X, undo(Y), S(2), plus(X, S(1))])
                rows[-1] = [times(by, term) for term in rows[0]]
            if not all(is_sound(chance, term, "xy") for term in terms_of(rows)):
                continue
            if sum(parts(term) for term in terms_of(rows)) > 36:
                continue
            right = self.check(rows)[0]
            self.assertEqual(right, thrown_rank(chance, rows), rows)
            seen[many, right] = True
        self.assertTrue({(1, 1), (2, 1), (2, 2), (3, 2), (3, 3)} <= set(seen))

    def test_exchanged_rows_and_columns(self):
        for right, rows in SQUARES:
            rows = read(rows)
            self.assertEqual(self.check(rows[::-1])[0], right)
            self.assertEqual(self.check([row[::-1] for row in rows])[0], right)
            self.assertEqual(self.check(rows[1:] + rows[:1])[0], right)

    def test_a_multiple_of_a_row_added_from_the_left(self):
        for right, rows in SQUARES:
            rows = read(rows)
            if len(rows) > 1 and sum(parts(term) for term in terms_of(rows)) <= 20:
                for by in (S(3, 7), X, undo(X)):
                    last = [plus(one, times(by, other)) for one, other in zip(rows[-1], rows[0])]
                    if sum(parts(term) for term in terms_of(rows[:-1] + [last])) <= 36:
                        self.assertEqual(self.check(rows[:-1] + [last])[0], right, (rows, by))

    def test_of_one_row_it_tells_nought(self):
        for text, right in (("x*y - x*y", 0), ("x*y - y*x", 1), ("~~x - x", 0), ("~~x + x", 1)):
            self.assertEqual(rank_of([[read_term(text)]])[0], right)

    def test_the_rank_of_the_web_is_as_much_greater_as_there_are_inner_rows(self):
        for right, rows in SQUARES:
            squares = square_web(read(rows))
            inner = len(squares[""]) - len(rows)
            if inner + len(rows) <= 6:
                self.assertEqual(web_rank(squares)[0], right + inner)
                many, room, tables = rank_of(read(rows))
                self.assertEqual(rank(laid(squares, tables)), (right + inner) * max([1, *map(len, tables.values())]))

    def test_letters_that_are_lost_in_the_web(self):
        many, room, tables = self.check(read([["x - x + 1", "y - y"], ["0", "z*0 + 2"]]))
        self.assertEqual((many, sorted(tables)), (2, ["x", "y", "z"]))
        self.assertEqual(rank_of([[S(5)]]), (1, [], {}))
        self.assertEqual(rank_of([[S(0)]]), (0, [[(1, 1)]], {}))

    def test_worths_are_needed_at_the_tables(self):
        for rows in ([["~(x*y - y*x)", "0"], ["0", "0"]], [["~(x - 1)*~(x - 2)*~(x + 1)*~x", "1"], ["~(x + 2)", "0"]]):
            many, room, tables = self.check(read(rows))
            self.assertNotIn(None, [worth(term, tables) for term in terms_of(read(rows))])


class Webs(Checks):
    def test_by_hand(self):
        self.assertEqual(square_web([[S(2, 3)]]), {"": [[(2, 3)]]})
        self.assertEqual(square_web([[X, S(1)], [Y, X]]),
                         {"": whole([[0, 1], [0, 0]]), "x": whole([[1, 0], [0, 1]]), "y": whole([[0, 0], [1, 0]])})
        self.assertEqual(square_web([[undo(X), S(5)], [Y, times(X, Y)]]),
                         {"": whole([[0, 0, 1, 0], [0, -1, 0, 0], [-1, 0, 0, 5], [0, 0, 0, 0]]),
                          "x": whole([[1, 0, 0, 0], [0, 0, 0, 0], [0, 0, 0, 0], [0, 1, 0, 0]]),
                          "y": whole([[0, 0, 0, 0], [0, 0, 0, 1], [0, 0, 0, 0], [0, 0, 1, 0]])})

    def test_entry_by_entry(self):
        for right, rows in SQUARES:
            self.assertEqual(square_web(read(rows)), plain_square_web(read(rows)))
        for rows in GREATEST:
            self.assertEqual(square_web(read(rows)), plain_square_web(read(rows)))

    def test_of_one_it_is_the_web(self):
        for text in ("x", "~x*y - 1/2", "x*(y + ~(x*y - y*x))"):
            self.assertEqual(square_web([[read_term(text)]]), web(read_term(text)))

    def test_what_is_nought_throughout_is_left_out_but_the_fixed_one(self):
        self.assertEqual(square_web([[less(X, X)]]), {"": [[(0, 1)]]})
        self.assertEqual(sorted(square_web([[X, Y], [less(Z, Z), X]])), ["", "x", "y"])

    def test_not_sound(self):
        self.assertEqual(square_web([[undo(S(0))]]), {"": whole([[0, 1], [-1, 0]])})
        self.assertEqual(square_web([[undo(less(X, X))]]), {"": whole([[0, 1], [-1, 0]])})

    def test_the_worths_are_what_the_inner_part_leaves(self):
        """The rank of the laid web is that of the worths and all inner rows."""
        chance = random.Random(42)
        for right, rows in SQUARES:
            rows = read(rows)
            tables = {letter: whole([[chance.randint(-9, 9) for _ in range(2)] for _ in range(2)])
                      for letter in letters_of(rows)}
            size = 2 if tables else 1
            worths = laid_worths(rows, {letter: fractions(tables[letter]) for letter in tables}, size,
                                 Fields)
            if worths is not None:
                squares = square_web(rows)
                inner = len(squares[""]) - len(rows)
                self.assertEqual(plain_rank(plain_laid(squares, tables, size)), plain_rank(worths) + inner * size)


class Refusals(unittest.TestCase):
    BAD = [(plus(X, "y"), "form"), (undone(X, 24), "many"), (undone(X, 5), "deep"),
           (plus(plus(plus(X, Y), plus(Z, W)), ("letter", "v")), "letters")]

    def refused(self, kind, door, rows):
        with self.assertRaises(kind) as caught:
            door(rows)
        self.assertEqual(caught.exception.word, kind.__name__)
        return caught.exception

    def test_bad_terms_go_first(self):
        for term, flaw in self.BAD:
            for door in (rank_of, square_web):
                for rows in ([[term]], [[X, term]], [[X], [Y], [Z], [term]], [[X, Y], [term, undo(S(0))]],
                             [[undo(S(0)), X], [X, term]], [[X] * 3, [X], [X, X, X, term]], [[term], [X, plus(X, 1)]]):
                    self.assertEqual(self.refused(BadTerm, door, rows).flaw, flaw)

    def test_the_first_bad_term_goes(self):
        for first, flaw in self.BAD:
            for second, other in self.BAD:
                for door in (rank_of, square_web):
                    for rows in ([[first, second]], [[first], [second]], [[X, first], [second, X]]):
                        self.assertEqual(self.refused(BadTerm, door, rows).flaw, flaw)

    def test_bad_squares(self):
        eighteen = undo(read_term("x*x*x*x*x*x*x*x*x"))
        self.assertEqual(parts(eighteen), 18)
        for rows in ([], [[]], [[], []], [[X, Y]], [[X], [Y]], [[X, Y], [Z]], [[X], [Y, Z]], [[X, Y], [Z, X, Y]],
                     [[X] * 4] * 4, [[X] * 3] * 2, [[X] * 2] * 3, [[X, Y, Z], [X, Y, Z], [X, Y]], [[X, Y], []],
                     [[eighteen, X], [X, read_term("x*x*x*x*x*x*x*x*x")]], [[X, Y], [Z, plus(W, ("letter", "v"))]],
                     [[("letter", letter) for letter in text] for text in ("ab", "cde")],
                     [[plus(plus(X, Y), plus(Z, W)), ("letter", "v")], [X, X]],
                     [[("letter", "v"), X], [S(0), plus(plus(X, Y), plus(Z, W))]]):
            for door in (rank_of, square_web):
                self.refused(BadSquare, door, rows)

    def test_bad_squares_ahead_of_unsound(self):
        for rows in ([[undo(S(0)), X]], [[undo(S(0))], [X]], [[undo(S(0)), X], [Y, plus(Z, plus(W, ("letter", "v")))]]):
            self.refused(BadSquare, rank_of, rows)

    def test_how_many_parts_and_letters_just_fit(self):
        nine = read_term("x*y*z*w*x")
        self.assertEqual(rank_of([[nine, nine], [nine, nine]])[0], 1)
        eleven = plus(nine, X)
        for rows in ([[nine, nine], [nine, undo(nine)]], [[eleven, nine], [nine, undone(read_term("x*y*z"), 3)]]):
            self.refused(BadSquare, rank_of, rows)
        self.assertEqual(rank_of([[X, Y], [Z, W]])[0], 2)

    def test_unsound(self):
        bad = read_term("x*~(y - y)")
        for rows, which, place in (([[bad]], 0, 2), ([[X, bad], [bad, bad]], 1, 2), ([[X, Y], [bad, undo(S(0))]], 2, 2),
                                   ([[X] * 3, [X, X, bad], [undo(S(0))] * 3], 5, 2), ([[X, X], [X, undone(S(0), 3)]], 3, 2),
                                   ([[X] * 3, [X] * 3, [X, X, plus(undo(X), undo(S(0)))]], 8, 3)):
            refusal = self.refused(Unsound, rank_of, rows)
            self.assertEqual((refusal.which, refusal.place), (which, place))
            self.assertEqual(len(square_web(rows)[""]), len(plain_square_web(rows)[""]))

    def test_tuples_in_place_of_lists(self):
        self.assertEqual(rank_of(((X, Y), [Y, X])), rank_of([[X, Y], [Y, X]]))
        self.assertEqual(square_web([(X, Y), (Y, X)]), square_web([[X, Y], [Y, X]]))


class Bearable(Checks):
    def test_the_greatest(self):
        start = time.process_time()
        for rows in GREATEST:
            rows = read(rows)
            self.assertGreaterEqual(sum(parts(term) for term in terms_of(rows)), 34)
            self.check(rows)
        chance = random.Random(43)
        for _ in range(60):
            many = chance.choice([2, 3])
            rows = [[some_term(chance, 36 // many ** 2, "xyzw", figures=chance.choice([1, 12])) for _ in range(many)]
                    for _ in range(many)]
            if all(is_sound(chance, term, "xyzw") for term in terms_of(rows)):
                self.assertEqual(self.check(rows)[0], thrown_rank(chance, rows))
                rows[-1] = rows[0]
                self.assertEqual(rank_of(rows)[0], thrown_rank(chance, rows))
        self.assertLess(time.process_time() - start, 120)

    def test_the_primes_of_the_program(self):
        """What comes to a prime that the program reckons with isn't nought."""
        for exponent in (61, 89):
            top, rest = divmod(2 ** exponent - 1, 999999999989)
            above, below = divmod(top, 999999999989)
            term = plus(times(S(999999999989), plus(times(S(above), S(999999999989)), S(below))), S(rest))
            self.assertEqual(self.check([[term]])[0], 1)
            self.assertEqual(self.check([[term, S(0)], [S(0), X]])[0], 2)
            self.assertEqual(self.check([[term, times(term, X)], [S(1), X]])[0], 1)

    def test_unit(self):
        self.assertEqual(rank_of([[S(one[0]) for one in row] for row in unit(3)]), (3, [], {}))


if __name__ == "__main__":
    unittest.main()
