"""Promises [7] and [12]: sound reckonings, and the papers that show it."""

import copy
import random
import time
import unittest

from helping import (S, W, X, Y, Z, fractions, is_nought, is_sound, less, plain_is_room, plain_worth, plus, some_term,
                     times, undo, undone, whole)
from nevernought.errors import BadTerm
from nevernought.rooms import is_room
from nevernought.sound import sound, sound_holds
from nevernought.tables import unit
from nevernought.terms import letters, part, undoings
from nevernought.tongue import read_term
from nevernought.webs import web

SOUND = ["x", "0", "-1/2", "x + y", "~x", "~~~~x", "~2", "~(x*y)", "~(x - y)", "~(x*y - y*x)", "~~(x*y - y*x)",
         "~(~x + ~y)", "~(x*x - x)", "~(x - 1)*~(x - 2)*~(x + 1)*~(x + 2)*~x", "~(~(x*y - y*x) - ~(y*z - z*y))",
         "~(x*x*x - x)*~(y*y*y - y)", "~(x*~y*z - z*~y*x)", "~(x + y - x)", "x - x", "(x - x)*~y", "0*~x",
         "~(x*(x - 1)*(x - 2)*(x - 3)*(x + 1)*(x + 2))"]

# Each with the place of the first undoing from within whose thing is sound and nought.
UNSOUND = [
    ("~0", 0), ("~(x - x)", 0), ("~~0", 1), ("~~~~0", 3), ("~0*0", 1), ("0*~0", 2), ("x + ~(y - y)", 2),
    ("~(x - x) + ~0", 1), ("~x + ~0 + ~(y - y)", 4), ("~(~(x - x) + ~0)", 2), ("~(~0 - ~0)", 2), ("~(~x - ~x)", 0),
    ("~x*~(~x*x - 1)", 3), ("~(x*y - x*y)", 0), ("~(~(x*y) - ~y*~x)", 0), ("~((x + y)*z - x*z - y*z)", 0),
    ("~(x - ~~x)", 0), ("~(~~x - x)*~(~~~y - ~y)", 1), ("~(~(x*y - y*x) - ~(x*y - y*x))", 0),
    ("~(~x*(x + y)*~y - ~x - ~y)", 0), ("~(x*~(x + y)*y - y*~(x + y)*x)", 0), ("~(~(~x + ~(~y - x)) - x + x*y*x)", 0),
    ("~(x*y - y*x) + ~(x*1 - x)", 9), ("~(~(x*y - y*x + 0) + ~(y*x - x*y))", 0),
    ("~(1 - x)*x - ~(~(1 - x) - 1 - ~(1 - x)*x)", 7), ("~(x + (0 - x))*~(x*~(y - y))", 1), ("~(x*~(y - y) + ~(z - z))", 4),
    ("~(1/2 + 1/3 - 5/6)", 0), ("~(2*x - x*2)", 0), ("~(x*x*x - x*(x*x))", 0),
]


def in_fractions(tables):
    return {letter: fractions(tables[letter]) for letter in tables}


class Papers(unittest.TestCase):
    def check_sound(self, term):
        paper = sound(term)
        self.assertIsInstance(paper, tuple)
        self.assertEqual(paper[0], "sound", term)
        self.assertEqual(len(paper), 2)
        self.assertEqual(sorted(paper[1]), letters(term))
        size = max([len(table) for table in paper[1].values()], default=1)
        for table in paper[1].values():
            self.assertEqual([len(row) for row in table], [size] * size)
        self.assertIsNotNone(plain_worth(term, in_fractions(paper[1]), size))
        self.assertIs(sound_holds(term, paper), True)
        return paper

    def check_unsound(self, term):
        paper = sound(term)
        self.assertIsInstance(paper, tuple)
        self.assertEqual(paper[0], "unsound", term)
        word, place, room = paper
        self.assertIn(place, undoings(term))
        self.assertTrue(plain_is_room(web(part(term, place)[1]), room))
        self.assertIs(sound_holds(term, paper), True)
        return paper

    def test_sound(self):
        for text in SOUND:
            self.check_sound(read_term(text))

    def test_unsound_with_the_first_place(self):
        for text, place in UNSOUND:
            self.assertEqual(self.check_unsound(read_term(text))[1], place, text)

    def test_thrown(self):
        chance = random.Random(20)
        seen = {True: 0, False: 0}
        for _ in range(500):
            term = some_term(chance, chance.randint(2, 16), "xy")
            right = is_sound(chance, term, "xy")
            seen[right] += 1
            if right:
                self.check_sound(term)
            else:
                place = self.check_unsound(term)[1]
                for other in undoings(term):
                    thing = part(term, other)[1]
                    nought = is_sound(chance, thing, "xy") and is_nought(chance, thing, "xy")
                    self.assertIs(nought, other == place, (term, other))
                    if other == place:
                        break
        self.assertGreater(min(seen.values()), 25)

    def test_at_size_one_alone_there_would_be_no_worth(self):
        paper = self.check_sound(read_term("~(x*y - y*x)"))
        self.assertGreater(len(paper[1]["x"]), 1)

    def test_without_letters(self):
        self.assertEqual(sound(S(1)), ("sound", {}))
        self.assertEqual(sound(undo(S(1, 3))), ("sound", {}))
        paper = sound(undo(S(0)))
        self.assertEqual(paper[:2], ("unsound", 0))
        self.assertEqual(len(paper[2]), 1)
        self.check_unsound(read_term("~(999999999999*999999999998 - 999999999998*999999999999)"))

    def test_the_primes_of_the_program(self):
        """What comes to a prime that the program reckons with isn't nought."""
        prime = 2 ** 61 - 1
        top, rest = divmod(prime, 999999999989)
        term = undo(plus(times(S(999999999989), S(top)), S(rest)))
        self.check_sound(term)
        self.check_unsound(undo(less(times(X, term), times(term, X))))
        self.check_unsound(undo(less(term, term)))
        self.check_unsound(undo(times(less(X, X), term)))


class Holds(unittest.TestCase):
    def test_other_words(self):
        term, bad = read_term("~(x - y)"), read_term("~(x - x)")
        right, wrong = sound(term), sound(bad)
        for word in ("", "Sound", "unsound", "nought", "else", "alike", "unlike"):
            self.assertIs(sound_holds(term, (word, right[1])), False)
        for word in ("", "sound", "Unsound", "nought", "else"):
            self.assertIs(sound_holds(bad, (word, wrong[1], wrong[2])), False)
        self.assertIs(sound_holds(bad, right), False)
        self.assertIs(sound_holds(term, wrong), False)

    def test_other_tables(self):
        term = read_term("~(x - y)*~z")
        one, two = whole([[1]]), whole([[2]])
        self.assertIs(sound_holds(term, ("sound", {"x": one, "y": two, "z": one})), True)
        for tables in ({}, {"x": one, "y": two}, {"x": one, "z": one}, {"x": one, "y": one, "z": one},
                       {"x": one, "y": two, "z": whole([[0]])}, {"x": one, "y": two, "z": unit(2)},
                       {"x": one, "y": two, "z": []}, {"x": [], "y": [], "z": []},
                       {"x": one, "y": two, "z": [[(1, 1), (1, 1)]]}, {"x": one, "y": two, "z": [[]]},
                       {"x": unit(2), "y": whole([[0, 1], [1, 0]]), "z": unit(2)},
                       {"x": unit(2), "y": whole([[2, 0], [0, 2]]), "z": whole([[1, 1], [1]])}):
            self.assertIs(sound_holds(term, ("sound", tables)), False, tables)
        self.assertIs(sound_holds(term, ("sound", {"x": unit(2), "y": whole([[2, 0], [0, 2]]), "z": unit(2)})), True)

    def test_tables_for_letters_too_many(self):
        """At these it has a worth, too, where all are of one size."""
        one, two = whole([[1]]), whole([[2]])
        self.assertIs(sound_holds(undo(X), ("sound", {"x": one, "q": two})), True)
        self.assertIs(sound_holds(undo(X), ("sound", {"x": one, "q": unit(2)})), False)
        self.assertIs(sound_holds(undo(S(0)), ("sound", {"q": one})), False)
        self.assertIs(sound_holds(S(0), ("sound", {})), True)

    def test_other_places(self):
        term = read_term("~(x - x) + ~y + ~~0")
        room = sound(term)[2]
        self.assertEqual(room, [[(1, 1)]])
        right = {2: True, 6: False, 8: False, 9: True}
        for place in range(-12, 25):
            self.assertIs(sound_holds(term, ("unsound", place, room)), right.get(place, False), place)

    def test_any_undoing_that_is_nought_will_do(self):
        term = read_term("~0 + ~(x*y - x*y)")
        self.assertEqual(sound(term)[1], 1)
        room = sound(read_term("~(x*y - x*y)"))[2]
        self.assertIs(sound_holds(term, ("unsound", 3, room)), True)
        self.assertIs(sound_holds(term, ("unsound", 1, room)), False)

    def test_bent_and_shorter_rooms(self):
        for text, place in UNSOUND:
            term = read_term(text)
            word, place, room = sound(term)
            squares = web(part(term, place)[1])
            for at in range(len(room)):
                shorter = room[:at] + room[at + 1:]
                self.assertIs(sound_holds(term, (word, place, shorter)), plain_is_room(squares, shorter))
                for column in range(len(room[at])):
                    bent = copy.deepcopy(room)
                    bent[at][column] = (bent[at][column][0] + 1, bent[at][column][1])
                    self.assertIs(sound_holds(term, (word, place, bent)), plain_is_room(squares, bent), text)
            for rows in ([], room + room, [row[1:] for row in room], [row + [(0, 1)] for row in room],
                         room + [[(0, 1)] * len(room[0])]):
                self.assertIs(sound_holds(term, (word, place, rows)), False)

    def test_the_same_room_by_other_rows(self):
        term = read_term("~(~(~x + ~(~y - x)) - x + x*y*x)")
        word, place, room = sound(term)
        mixed = [[(3 * a[0] - 5 * b[0], 7) if (3 * a[0] - 5 * b[0]) % 7 else ((3 * a[0] - 5 * b[0]) // 7, 1)
                  for a, b in zip(row, room[at - 1])] for at, row in enumerate(room)]
        self.assertIs(sound_holds(term, (word, place, mixed)), True)
        self.assertIs(sound_holds(term, (word, place, tuple(tuple(row) for row in reversed(mixed)))), True)

    def test_bad_terms(self):
        for term, flaw in ((plus(X, "y"), "form"), (undone(X, 24), "many"), (undone(X, 5), "deep"),
                           (plus(plus(plus(X, Y), plus(Z, W)), ("letter", "v")), "letters")):
            for door in (sound, lambda one: sound_holds(one, ("sound", {})),
                         lambda one: sound_holds(one, ("", {})), lambda one: sound_holds(one, ("unsound", 0, []))):
                with self.assertRaises(BadTerm) as caught:
                    door(term)
                self.assertEqual(caught.exception.flaw, flaw)


class Bearable(unittest.TestCase):
    GREATEST = ["~~~~x*(~~~~y*~~~~z)*~~~~x", "~(~(~(~(x*y - y*x) - x*y) - y*x)*x - 1/2)",
                "~~~(x*y - x*y)*(~~~~y*~~~z)", "~(x*(x*(x*(x*(x*(x*(x*(x*(x*(x*(x*x)))))))))))",
                "~(~(~(~(x - y)*z - w)*x - y)*z - 999999999999/999999999998)*w + x",
                "~(x*~(x + y)*y - y*~(x + y)*x)*~~w"]

    def test_the_greatest(self):
        start = time.process_time()
        chance = random.Random(21)
        terms = [read_term(text) for text in self.GREATEST]
        terms += [some_term(chance, 24, "xyzw", figures=chance.choice([1, 12])) for _ in range(60)]
        for term in terms:
            paper = sound(term)
            self.assertIs(sound_holds(term, paper), True)
            self.assertEqual(paper[0] == "sound", is_sound(chance, term, "xyzw"))
        self.assertLess(time.process_time() - start, 60)

    def test_rooms_of_small_webs_are_rooms_for_all(self):
        word, place, room = sound(read_term("~(x*y - x*y)"))
        self.assertTrue(is_room(web(read_term("x*y - x*y")), room))


if __name__ == "__main__":
    unittest.main()
