"""Promises [15] and [17]: machines that weigh words, and the least ones."""

import copy
import random
import time
import unittest
from fractions import Fraction
from math import gcd
from unittest import mock

from helping import fractions, pairs, plain_back, plain_least, plain_product, plain_weight, some_share, whole, words_of
from nevernought import shares
from nevernought.errors import BadMachine, Missing, NeverError, NoLetter
from nevernought.machines import Machine
from nevernought.shares import common_divisor
from nevernought.tables import unit

EMPTY = Machine([], [], {}, [])
# Weighs a word of a and b by how many a it has.
COUNT = Machine(["a", "b"], [(1, 1), (0, 1)], {"a": whole([[1, 1], [0, 1]]), "b": whole([[1, 0], [0, 1]])}, [(0, 1), (1, 1)])


def row(*numbers):
    return [(number, 1) for number in numbers]


def small(chance):
    top, bottom = chance.choice([0, 0, 0, 1, 1, -1, 2, 3]), chance.choice([1, 1, 1, 2, 3])
    return (top // gcd(top, bottom), bottom // gcd(top, bottom))


def some_machine(chance, rooms, letters, share=None):
    share = share or (lambda: small(chance))
    steps = {letter: [[share() for _ in range(rooms)] for _ in range(rooms)] for letter in letters}
    return Machine(list(letters), [share() for _ in range(rooms)], steps, [share() for _ in range(rooms)])


def all_four(machine):
    return (machine.letters(), machine.begin(), {letter: machine.steps(letter) for letter in machine.letters()}, machine.end())


def plainly(machine, word):
    letters, begin, steps, end = all_four(machine)
    return plain_weight(begin, steps, end, word)


def weighed(machine, word):
    return Fraction(*machine.weight(word))


def chain(many, letter="a"):
    """Weighs just the word of that many letters less one, by 1."""
    steps = {letter: [[(int(j == i + 1), 1) for j in range(many)] for i in range(many)]}
    return Machine([letter], [(int(i == 0), 1) for i in range(many)], steps, [(int(i == many - 1), 1) for i in range(many)])


def mixed(chance, machine):
    """The same weights seen through a table that was thrown."""
    letters, begin, steps, end = all_four(machine)
    many = len(machine)
    over = fractions(unit(many))
    for _ in range(2 * many):
        one, other = chance.sample(range(many), 2)
        over[one] = [a + chance.choice([-1, 1]) * b for a, b in zip(over[one], over[other])]
    back = plain_back(over)
    begin = pairs(plain_product([fractions([begin])[0]], back))[0]
    steps = {letter: pairs(plain_product(plain_product(over, fractions(steps[letter])), back)) for letter in letters}
    end = [line[0] for line in pairs(plain_product(over, [[Fraction(*one)] for one in end]))]
    return Machine(letters, begin, steps, end)


class Making(unittest.TestCase):
    def refused(self, *four):
        with self.assertRaises(BadMachine) as caught:
            Machine(*four)
        self.assertEqual(caught.exception.word, "BadMachine")
        self.assertIsInstance(caught.exception, NeverError)

    def test_what_was_handed_in_is_told(self):
        steps = {"b": whole([[1, 2], [3, 4]]), "a": [[(1, 2), (0, 1)], [(-3, 7), (5, 1)]]}
        machine = Machine(["b", "a"], [(1, 1), (2, 3)], steps, row(0, 5))
        self.assertEqual(all_four(machine), (["a", "b"], [(1, 1), (2, 3)], steps, row(0, 5)))
        self.assertEqual((len(machine), repr(machine)), (2, "Machine(2 rooms, 2 letters)"))

    def test_letters_rise(self):
        letters = ["b", "zz", "a", "ab", "zzzzzz", "z"]
        machine = Machine(letters, row(1), {letter: unit(1) for letter in letters}, row(1))
        self.assertEqual(machine.letters(), ["a", "ab", "b", "z", "zz", "zzzzzz"])
        self.assertEqual(machine, Machine(letters[::-1], row(1), {letter: unit(1) for letter in sorted(letters)}, row(1)))

    def test_none_one_and_twelve_rooms(self):
        for many in (0, 1, 12):
            machine = Machine(["a"], row(*[1] * many), {"a": unit(many)}, row(*[2] * many))
            self.assertEqual((len(machine), bool(machine)), (many, many > 0))
            self.assertEqual(machine.weight(("a",) * 3), (2 * many, 1))
            self.assertEqual(repr(machine), f"Machine({many} rooms, 1 letters)")
            self.assertEqual(len(machine.steps("a")), many)

    def test_no_letters(self):
        machine = Machine([], row(2, 3), {}, row(5, 7))
        self.assertEqual(all_four(machine), ([], row(2, 3), {}, row(5, 7)))
        self.assertEqual((machine.weight(()), machine.weight(("a",))), ((31, 1), (0, 1)))
        self.assertEqual(repr(machine), "Machine(2 rooms, 0 letters)")
        self.assertEqual((EMPTY.weight(()), len(EMPTY), repr(EMPTY)), ((0, 1), 0, "Machine(0 rooms, 0 letters)"))

    def test_unlike_lengths(self):
        two = unit(2)
        for begin, steps, end in ((row(1), {"a": two}, row(1, 2)), (row(1, 2, 3), {"a": two}, row(1, 2)),
                                  (row(1, 2), {"a": two}, row(1)), (row(1, 2), {"a": two}, row(1, 2, 3)),
                                  (row(1), {"a": two}, row(1)), ([], {"a": two}, []), (row(1, 2), {"a": unit(1)}, row(1, 2)),
                                  (row(1, 2), {"a": unit(3)}, row(1, 2)), (row(1, 2), {"a": []}, row(1, 2)),
                                  (row(1, 2), {"a": [row(1, 2)]}, row(1, 2)), (row(1, 2), {"a": [row(1, 2), row(1)]}, row(1, 2)),
                                  (row(1, 2), {"a": [row(1), row(1, 2)]}, row(1, 2)), (row(1, 2), {"a": [[], []]}, row(1, 2)),
                                  (row(1, 2), {"a": [row(1, 2), row(1, 2, 3)]}, row(1, 2)), ([], {"a": [[]]}, []),
                                  (row(1, 2), {"a": two + [row(1, 2)]}, row(1, 2)), ([], {"a": []}, row(1)), (row(1), {"a": []}, [])):
            self.refused(["a"], begin, steps, end)
        for bad in (unit(1), unit(3), [], [row(1, 2), row(1)]):
            self.refused(["a", "b"], row(1, 2), {"a": two, "b": bad}, row(1, 2))
            self.refused(["a", "b"], row(1, 2), {"b": two, "a": bad}, row(1, 2))

    def test_letters_and_steps(self):
        one = unit(1)
        for letters, steps in ((["a"], {}), ([], {"a": one}), (["a"], {"b": one}), (["a", "b"], {"a": one}),
                               (["a"], {"a": one, "b": one}), (["a", "a"], {"a": one}), (["a", "b", "a"], {"a": one, "b": one}),
                               (["a", "a"], {"a": one, "b": one}), (["a", "b"], {"a": one, "c": one})):
            self.refused(letters, row(1), steps, row(1))

    def test_no_letters_of_five(self):
        for letter in ("", "A", "aB", "abcdefg", "a1", "1", " ", "a ", "_", "~", "a\n"):
            self.refused([letter], row(1), {letter: unit(1)}, row(1))
            self.refused(["a", letter], row(1), {letter: unit(1), "a": unit(1)}, row(1))
        self.assertEqual(Machine(["abcdef"], row(1), {"abcdef": unit(1)}, row(1)).letters(), ["abcdef"])

    def test_tuples_in_place_of_lists(self):
        machine = Machine(("b", "a"), ((1, 1), (0, 1)), {"a": (((1, 1), (1, 1)), [(0, 1), (1, 1)]), "b": tuple(unit(2))}, ((0, 1), (1, 1)))
        self.assertEqual(machine, COUNT)
        letters, begin, steps, end = all_four(machine)
        for told in (letters, begin, end, steps["a"], steps["a"][0], steps["b"], steps["b"][1]):
            self.assertIs(type(told), list)

    def test_by_name(self):
        machine = Machine(end=row(0, 1), steps={"a": whole([[1, 1], [0, 1]]), "b": unit(2)}, letters=["a", "b"], begin=row(1, 0))
        self.assertEqual(machine, COUNT)
        self.assertEqual(machine.steps(letter="a"), COUNT.steps("a"))
        self.assertEqual(machine.weight(word=("a", "a")), (2, 1))
        self.assertEqual(machine.plus(other=machine).weight(("a",)), (2, 1))
        self.assertEqual(machine.times(other=machine).weight(("a", "a")), (1, 1))
        self.assertIsNone(machine.unlike(other=COUNT))

    def test_no_letter(self):
        for letter in ("c", "aa", "", "A"):
            with self.assertRaises(NoLetter) as caught:
                COUNT.steps(letter)
            self.assertEqual((caught.exception.word, caught.exception.letter), ("NoLetter", letter))
            self.assertIsInstance(caught.exception, Missing)

    def test_what_is_changed_afterwards_changes_no_machine(self):
        letters, begin, end = ["a", "b"], row(1, 0), row(0, 1)
        steps = {"a": whole([[1, 1], [0, 1]]), "b": unit(2)}
        machine = Machine(letters, begin, steps, end)
        letters.append("c")
        begin[0] = end[1] = (9, 1)
        steps["a"][0][1] = (5, 1)
        steps["b"].pop()
        del steps["a"][1]
        self.assertEqual(machine, COUNT)
        for told in all_four(machine):
            told.clear()
        for told in (machine.steps("a"), machine.steps("b")[0], machine.steps("a")[1]):
            told.clear()
        self.assertEqual(machine, COUNT)
        self.assertEqual(machine.weight(("a", "b", "a")), (2, 1))
        self.assertEqual(machine.least(), COUNT.least())

    def test_refused_stays_as_it_was(self):
        four = (["b", "a", "a"], row(1), {"a": unit(1), "b": unit(2)}, row(1, 2))
        before = copy.deepcopy(four)
        self.refused(*four)
        self.assertEqual(four, before)


class Weights(unittest.TestCase):
    def test_by_hand(self):
        for word, right in (("", 0), ("a", 1), ("b", 0), ("ab", 1), ("ba", 1), ("aa", 2), ("abbaab", 3), ("b" * 50, 0), ("a" * 50, 50)):
            self.assertEqual(COUNT.weight(tuple(word)), (right, 1))

    def test_the_order_counts(self):
        machine = Machine(["a", "b"], row(1, 0), {"a": whole([[0, 1], [0, 0]]), "b": whole([[0, 0], [0, 5]])}, row(0, 1))
        self.assertEqual((machine.weight(("a", "b")), machine.weight(("b", "a"))), ((5, 1), (0, 1)))
        self.assertEqual((machine.weight(("a",)), machine.weight(("a", "b", "b"))), ((1, 1), (25, 1)))

    def test_other_letters_weigh_nought(self):
        for word in (("c",), ("a", "c"), ("c", "a"), ("a", "c", "a"), ("aa",), ("a", "ab")):
            self.assertEqual(COUNT.weight(word), (0, 1))

    def test_thrown(self):
        chance = random.Random(60)
        for _ in range(40):
            machine = some_machine(chance, chance.randint(0, 4), chance.choice(["", "a", "ba"]), lambda: some_share(chance, 2))
            for word in words_of("abc", 3):
                self.assertEqual(weighed(machine, word), plainly(machine, word))
                self.assertIsInstance(machine.weight(word), tuple)

    def test_great_shares_and_long_words(self):
        chance = random.Random(61)
        machine = some_machine(chance, 12, "ab", lambda: some_share(chance, 12))
        word = ("a", "b", "b", "a")
        self.assertEqual(weighed(machine, word), plainly(machine, word))
        machine = some_machine(chance, 3, "ab")
        word = ("a", "b", "b") * 100
        self.assertEqual(weighed(machine, word), plainly(machine, word))


class Joined(unittest.TestCase):
    def check(self, one, other, names, most):
        total, product = one.plus(other), one.times(other)
        for machine in (total, product):
            self.assertIsInstance(machine, Machine)
        for word in words_of(names, most):
            self.assertEqual(weighed(total, word), weighed(one, word) + weighed(other, word))
            ways = [weighed(one, word[:at]) * weighed(other, word[at:]) for at in range(len(word) + 1)]
            self.assertEqual(weighed(product, word), sum(ways))

    def test_by_hand(self):
        self.check(COUNT, COUNT, "ab", 4)
        self.check(COUNT, EMPTY, "ab", 3)
        self.check(EMPTY, COUNT, "ab", 3)
        self.check(EMPTY, EMPTY, "a", 2)
        self.check(chain(3), chain(2, "b"), "ab", 4)
        self.check(chain(2, "b"), chain(3), "ab", 4)
        self.assertEqual(chain(3).times(chain(2, "b")).weight(("a", "a", "b")), (1, 1))
        self.assertEqual(chain(3).times(chain(2, "b")).weight(("b", "a", "a")), (0, 1))

    def test_thrown(self):
        chance = random.Random(62)
        for _ in range(40):
            one = some_machine(chance, chance.randint(0, 4), chance.choice(["", "a", "ab", "bc"]))
            other = some_machine(chance, chance.randint(0, 4), chance.choice(["", "c", "ab", "bac"]))
            self.check(one, other, "abc", 4)

    def test_letters_of_both(self):
        self.assertEqual(chain(2, "b").plus(chain(2)).letters(), ["a", "b"])
        self.assertEqual(chain(2, "b").times(chain(2)).letters(), ["a", "b"])

    def test_what_is_told_may_be_handed_on(self):
        one = COUNT
        for _ in range(3):
            one = one.plus(one)
        self.assertEqual(one.weight(("a", "a")), (16, 1))
        one = COUNT.times(COUNT).times(COUNT.times(COUNT))
        self.assertEqual(one.weight(tuple("aaaaa")), (8, 1))
        self.assertEqual(len(one.least()), 8)

    def test_neither_is_changed(self):
        one, other = chain(3), COUNT
        before = all_four(one), all_four(other)
        one.plus(other), one.times(other), one.unlike(other), one.least(), one.weight(("a",))
        self.assertEqual((all_four(one), all_four(other)), before)


class Unlike(unittest.TestCase):
    def test_by_hand(self):
        self.assertIsNone(COUNT.unlike(COUNT))
        self.assertIsNone(EMPTY.unlike(EMPTY))
        self.assertEqual(COUNT.unlike(EMPTY), ("a",))
        self.assertEqual(EMPTY.unlike(COUNT), ("a",))
        self.assertEqual(chain(1).unlike(EMPTY), ())
        self.assertEqual(chain(4).unlike(EMPTY), ("a",) * 3)
        self.assertEqual(chain(4).unlike(chain(3)), ("a",) * 2)
        self.assertEqual(chain(2, "b").unlike(chain(3)), ("b",))
        self.assertEqual(chain(2, "b").unlike(chain(2, "a")), ("a",))
        self.assertEqual(chain(2, "b").unlike(chain(2, "aa")), ("aa",))
        self.assertEqual(chain(12).unlike(chain(12, "b")), ("a",) * 11)
        self.assertEqual(chain(12).plus(chain(12, "b")).unlike(chain(12)), ("b",) * 11)

    def test_long_ways_to_the_first_unlike_word(self):
        for many in (5, 12):
            both = chain(many).times(chain(many, "b"))
            self.assertEqual(both.unlike(EMPTY), ("a",) * (many - 1) + ("b",) * (many - 1))
            self.assertIsNone(both.unlike(both.least()))

    def test_thrown(self):
        chance = random.Random(63)
        seen = set()
        for _ in range(120):
            one = some_machine(chance, chance.randint(0, 3), chance.choice(["a", "ab", "b"]))
            other = chance.choice([lambda: some_machine(chance, chance.randint(0, 3), chance.choice(["a", "ab", "bc"])),
                                   lambda: one.plus(chain(chance.randint(2, 3), "b").times(chain(2, chance.choice("abc")))),
                                   one.least])()
            right = next((word for word in words_of("abc", 6) if weighed(one, word) != weighed(other, word)), None)
            self.assertEqual(one.unlike(other), right)
            self.assertEqual(other.unlike(one), right)
            seen.add(right if right is None else len(right))
        self.assertTrue({None, 0, 1, 2, 3} <= seen)

    def test_great_shares(self):
        chance = random.Random(73)
        start = time.process_time()
        one, other = (some_machine(chance, 12, "abcd", lambda: some_share(chance, 12)) for _ in range(2))
        self.assertEqual(one.unlike(other), ())
        steps = {letter: one.steps(letter) for letter in one.letters()}
        letters, begin = one.letters(), one.begin()
        self.assertEqual(Machine(letters, begin, steps, row(*[0] * 12)).unlike(one), ())
        self.assertLess(time.process_time() - start, 20)

    def test_least_by_length_and_then_as_tuples(self):
        one = Machine(["b", "ab"], row(1, 0), {"b": whole([[0, 1], [0, 0]]), "ab": whole([[0, 2], [0, 0]])}, row(0, 1))
        self.assertEqual(one.unlike(EMPTY), ("ab",))
        two = chain(3, "a").plus(chain(2, "z"))
        self.assertEqual(two.unlike(EMPTY), ("z",))


class Like(unittest.TestCase):
    def test_equal(self):
        again = Machine(*all_four(COUNT))
        self.assertTrue(COUNT == again)
        self.assertFalse(COUNT != again)
        letters, begin, steps, end = all_four(COUNT)
        for other in (Machine(letters, row(1, 1), steps, end), Machine(letters, begin, steps, row(1, 1)),
                      Machine(letters, begin, {**steps, "a": unit(2)}, end), Machine(["a"], begin, {"a": steps["a"]}, end),
                      Machine(["a", "c"], begin, {"a": steps["a"], "c": steps["b"]}, end), COUNT.plus(EMPTY).plus(COUNT), EMPTY):
            self.assertFalse(COUNT == other)
            self.assertTrue(COUNT != other)
        self.assertTrue(COUNT.plus(EMPTY) == COUNT)

    def test_equal_to_nothing_else(self):
        for other in (None, 0, 2, "Machine(2 rooms, 2 letters)", all_four(COUNT), list(all_four(COUNT)), [], {}, (), True, Machine):
            self.assertFalse(COUNT == other)
            self.assertTrue(COUNT != other)
            self.assertFalse(other == COUNT)
            self.assertFalse(EMPTY == other)

    def test_machines_that_are_like_need_not_be_equal(self):
        twice = Machine([], row(1, 1), {}, row(1, 1))
        once = Machine([], row(2), {}, row(1))
        self.assertIsNone(twice.unlike(once))
        self.assertNotEqual(twice, once)
        self.assertEqual(twice.least(), once.least())

    def test_the_methods_stand_in_the_class_itself(self):
        for name in ("letters", "begin", "end", "steps", "weight", "least", "plus", "times", "unlike", "__init__", "__eq__",
                     "__len__", "__repr__"):
            self.assertIn(name, vars(Machine))

    def test_truth(self):
        self.assertEqual([bool(machine) for machine in (EMPTY, chain(1), COUNT)], [False, True, True])


class Least(unittest.TestCase):
    def check(self, machine, names="ab", most=None):
        """The least machine by the words' rows themselves."""
        least = machine.least()
        self.assertIsInstance(least, Machine)
        right = plain_least(lambda word: plainly(machine, word), names, len(machine) if most is None else most)
        self.assertEqual(all_four(least), right)
        self.assertEqual(least.least(), least)
        self.assertIsNone(least.unlike(machine))
        return least

    def test_by_hand(self):
        self.assertEqual(all_four(COUNT.least()),
                         (["a", "b"], row(1, 0), {"a": whole([[0, 1], [-1, 2]]), "b": whole([[1, 0], [0, 1]])}, row(0, 1)))
        self.assertEqual(all_four(Machine([], row(2, 3), {}, row(5, 7)).least()), ([], row(1), {}, row(31)))
        for many in range(2, 6):
            self.assertEqual(chain(many).least(), chain(many))

    def test_of_nothing(self):
        nought = Machine(["a"], row(1, 0), {"a": whole([[1, 0], [2, 0]])}, row(0, 1))
        for machine in (EMPTY, nought, Machine(["a"], [], {"a": []}, []), Machine(["a"], row(0), {"a": unit(1)}, row(1)),
                        Machine(["a"], row(1), {"a": unit(1)}, row(0)), Machine([], row(1, 1), {}, row(1, -1))):
            self.assertEqual(all_four(machine.least()), ([], [], {}, []))
            self.assertEqual((len(machine.least()), bool(machine.least())), (0, False))
            self.assertEqual(machine.least(), EMPTY)

    def test_rooms_that_nothing_comes_to(self):
        steps = {"a": whole([[2, 0, 0], [1, 1, 0], [4, 5, 6]])}
        least = self.check(Machine(["a"], row(1, 0, 0), steps, row(3, 1, 1)), "a")
        self.assertEqual(all_four(least), (["a"], row(1), {"a": whole([[2]])}, row(3)))

    def test_rooms_that_nothing_comes_of(self):
        steps = {"a": whole([[2, 1, 1], [0, 3, 0], [0, 0, 4]])}
        least = self.check(Machine(["a"], row(1, 1, 1), steps, row(3, 0, 0)), "a")
        self.assertEqual(all_four(least), (["a"], row(1), {"a": whole([[2]])}, row(3)))

    def test_letters_that_lead_nowhere(self):
        machine = Machine(["c", "a", "b"], row(1, 0), {"a": whole([[1, 1], [0, 1]]), "b": whole([[0, 0], [0, 0]]),
                                                       "c": whole([[0, 0], [5, 0]])}, row(1, 0))
        self.assertEqual(self.check(machine, "abc").letters(), ["a", "c"])
        machine = Machine(["b", "a"], row(1, 0), {"a": unit(2), "b": whole([[0, 1], [0, 1]])}, row(1, 0))
        self.assertEqual(all_four(self.check(machine)), (["a"], row(1), {"a": whole([[1]])}, row(1)))

    def test_thrown(self):
        chance = random.Random(64)
        sizes = set()
        for _ in range(60):
            machine = some_machine(chance, chance.randint(0, 4), chance.choice(["a", "ab", "ab", ""]))
            sizes.add((len(machine), len(self.check(machine))))
        self.assertGreater(len(sizes), 9)
        self.assertTrue({(3, 3), (4, 4)} <= sizes)
        self.assertTrue([many for many, few in sizes if few < many])

    def test_thrown_with_greater_shares(self):
        chance = random.Random(65)
        for figures in (2, 12):
            for _ in range(4):
                self.check(some_machine(chance, 3, "ab", lambda: some_share(chance, figures)))

    def test_mixed_up(self):
        chance = random.Random(66)
        for _ in range(25):
            machine = some_machine(chance, chance.randint(2, 5), "ab")
            other = mixed(chance, machine)
            self.assertNotEqual(machine, other)
            self.assertEqual(machine.least(), other.least())
            self.assertEqual(mixed(chance, machine.plus(other)).least(), other.plus(machine).least())
        machine = some_machine(chance, 12, "abc")
        self.assertEqual(mixed(chance, machine).least(), machine.least())

    def test_like_ones_have_the_same(self):
        chance = random.Random(67)
        seen = {True: 0, False: 0}
        for _ in range(100):
            one = some_machine(chance, chance.randint(0, 2), chance.choice(["a", "ab"]), lambda: (chance.randint(0, 1), 1))
            other = some_machine(chance, chance.randint(0, 3), chance.choice(["a", "ab", "ac"]), lambda: (chance.randint(0, 1), 1))
            like = one.unlike(other) is None
            seen[like] += 1
            self.assertIs(one.least() == other.least(), like)
        self.assertGreater(min(seen.values()), 10)

    def test_of_different_letters(self):
        machine = Machine(["a", "b"], row(1), {"a": unit(1), "b": whole([[0]])}, row(1))
        other = Machine(["a", "c"], row(2, 0), {"a": unit(2), "c": whole([[0, 1], [0, 0]])}, [(1, 2), (0, 1)])
        self.assertEqual(machine.least(), other.least())
        self.assertEqual(machine.least().letters(), ["a"])

    def test_sums_and_products(self):
        chance = random.Random(68)
        for _ in range(20):
            one, other, third = (some_machine(chance, chance.randint(0, 3), chance.choice(["a", "ab"])) for _ in range(3))
            self.assertEqual(one.plus(other).least(), other.plus(one).least())
            self.assertEqual(one.plus(other).least(), one.least().plus(other.least()).least())
            self.assertEqual(one.times(other).least(), one.least().times(other.least()).least())
            self.assertEqual(one.times(other).times(third).least(), one.times(other.times(third)).least())
            self.assertEqual(one.plus(other).times(third).least(), one.times(third).plus(other.times(third)).least())

    def test_chains_of_twelve_rooms(self):
        chance = random.Random(69)
        long = chain(12)
        self.assertEqual(long.least(), long)
        self.assertEqual(mixed(chance, long).least(), long)
        self.assertEqual(long.plus(long).least().end(), row(*[0] * 11, 2))
        steps = {"a": [[(int(j == (i + 1) % 12), 1) for j in range(12)] for i in range(12)]}
        ring = Machine(["a"], row(1, *[0] * 11), steps, row(1, *[0] * 11))
        self.assertEqual(ring.least(), ring)
        half = Machine(["a"], row(1, *[0] * 11), steps, row(*[1, 0, 0] * 4))
        self.assertEqual(all_four(half.least()), (["a"], row(1, 0, 0), {"a": whole([[0, 1, 0], [0, 0, 1], [1, 0, 0]])}, row(1, 0, 0)))
        both = Machine(["a", "b"], long.begin(), {"a": long.steps("a"), "b": long.steps("a")}, long.end())
        self.assertEqual(both.least(), both)
        self.assertEqual(both.weight(tuple("abababababa")), (1, 1))
        self.assertEqual(len(long.times(chain(12, "b")).least()), 23)

    def test_what_goes_backwards_through_a_chain(self):
        """Only the longest words tell two rooms apart."""
        steps = {"a": [[(int(j == i + 1), 1) for j in range(12)] for i in range(12)]}
        machine = Machine(["a"], row(*[1] * 12), steps, row(*[0] * 11, 1))
        self.assertEqual(all_four(machine.least())[3], row(*[1] * 12))
        self.assertEqual(len(machine.least()), 12)

    def test_bearable(self):
        chance = random.Random(70)
        start = time.process_time()
        for letters in ("a", "ab", "abcd"):
            one, other = (some_machine(chance, 12, letters) for _ in range(2))
            self.assertIsNone(one.least().unlike(one))
            self.assertIsNone(one.plus(other).least().unlike(other.plus(one)))
            self.assertIsNone(one.times(other).least().unlike(one.times(other)))
            self.assertIsNotNone(one.unlike(other))
            self.assertEqual(len(some_machine(chance, 12, letters, lambda: some_share(chance, 2)).least()), 12)
        self.assertLess(time.process_time() - start, 60)

    def test_asked_again(self):
        chance = random.Random(71)
        one, other = (some_machine(chance, 4, "ab") for _ in range(2))
        first, second = one.least(), other.least()
        self.assertEqual((one.least(), other.least()), (first, second))
        self.assertEqual(one.unlike(other), one.unlike(other))
        self.assertIsNot(one.least(), first)


class Divisors(unittest.TestCase):
    """The common divisors of very great numbers, as they come of machines with great shares."""

    def test_thrown(self):
        chance = random.Random(72)
        for long, short in ((shares.LONG, shares.SHORT), (10, 4), (30, 8), (300, 60)):
            with mock.patch.object(shares, "LONG", long), mock.patch.object(shares, "SHORT", short):
                for _ in range(200):
                    one, other, by = (chance.getrandbits(chance.randint(1, 3 * long)) * chance.choice([-1, 1]) for _ in range(3))
                    for pair in ((one, other), (one * by, other * by), (one, one * 3), (one, one * 7 + 1), (0, one), (one, 0),
                                 (one, one), (one, -one), (one + 1, one), (one * by, by)):
                        self.assertEqual(common_divisor(*pair), gcd(*pair))


if __name__ == "__main__":
    unittest.main()
