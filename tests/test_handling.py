"""Promise [2]: what is handed in stays as it was, what is told is new, and how calls are made."""

import copy
import inspect
import unittest

from nevernought import shares, tables
from nevernought.errors import BadTable, Unfit

A = [[(1, 2), (3, 1)], [(-5, 7), (2, 3)]]
B = [[(0, 1), (1, 1)], [(999999999999, 7), (1, 999999999999)]]
C = [[(5, 1)]]
SINGULAR = [[(1, 1), (2, 1)], [(2, 1), (4, 1)]]

# Each call of tables, with its arguments by the names of the interface.
TABLE_CALLS = [
    ("unit", {"size": 3}),
    ("need_table", {"rows": A}),
    ("added", {"one": A, "other": B}),
    ("taken", {"one": A, "other": B}),
    ("product", {"one": A, "other": B}),
    ("scaled", {"one": A, "by": (-2, 9)}),
    ("scaled", {"one": A, "by": (1, 1)}),
    ("turned_back", {"one": A}),
    ("turned_back", {"one": SINGULAR}),
    ("turned_back", {"one": [[(1, 1), (0, 1)], [(0, 1), (1, 1)]]}),
    ("rank", {"one": SINGULAR}),
    ("corners", {"one": A, "other": C}),
]
SHARE_CALLS = [
    ("share", {"top": 6, "bottom": -4}),
    ("plus", {"one": (1, 2), "other": (1, 3)}),
    ("less", {"one": (1, 2), "other": (1, 3)}),
    ("times", {"one": (1, 2), "other": (1, 3)}),
    ("over", {"one": (1, 2), "other": (1, 3)}),
    ("share_text", {"one": (-1, 3)}),
    ("read_share", {"text": "-1/3"}),
]


def as_tuples(thing):
    if isinstance(thing, list):
        return tuple(as_tuples(part) for part in thing)
    return thing


def lists_in(thing):
    """The identities of all lists within a thing."""
    if not isinstance(thing, (list, tuple)):
        return []
    found = [id(thing)] if isinstance(thing, list) else []
    for part in thing:
        found += lists_in(part)
    return found


def kinds_in(thing):
    """The kinds of a thing and of all within it."""
    if isinstance(thing, (list, tuple)):
        return (type(thing), [kinds_in(part) for part in thing])
    return type(thing)


def all_calls():
    for home, calls in ((shares, SHARE_CALLS), (tables, TABLE_CALLS)):
        for name, told in calls:
            yield getattr(home, name), told


class Handling(unittest.TestCase):
    def test_handed_in_stays_as_it_was(self):
        for work, told in all_calls():
            with self.subTest(work.__name__):
                before = copy.deepcopy(told)
                work(**told)
                self.assertEqual(told, before)
                self.assertEqual(kinds_in(list(told.values())), kinds_in(list(before.values())))

    def test_refused_stays_as_it_was(self):
        one, other, rows = copy.deepcopy(A), copy.deepcopy(C), [[(1, 1), (1, 1)], [(1, 1)]]
        for work in (tables.added, tables.taken, tables.product):
            self.assertRaises(Unfit, work, one, other)
        self.assertRaises(BadTable, tables.need_table, rows)
        self.assertEqual((one, other, rows), (A, C, [[(1, 1), (1, 1)], [(1, 1)]]))

    def test_told_lists_are_new(self):
        for work, told in all_calls():
            with self.subTest(work.__name__):
                first, second = work(**told), work(**told)
                found = lists_in(first) + lists_in(second) + lists_in(list(told.values()))
                self.assertEqual(len(found), len(set(found)))

    def test_told_lists_may_be_changed(self):
        for work, told in all_calls():
            answer = work(**told)
            if isinstance(answer, list):
                with self.subTest(work.__name__):
                    right = copy.deepcopy(answer)
                    for row in answer:
                        row.clear()
                    answer.clear()
                    self.assertEqual(work(**told), right)

    def test_tables_are_lists_of_lists_of_tuples(self):
        for work, told in all_calls():
            answer = work(**told)
            if isinstance(answer, list):
                size = len(answer)
                self.assertEqual(kinds_in(answer), (list, [(list, [(tuple, [int, int])] * size)] * size))

    def test_tuples_in_place_of_lists(self):
        for work, told in all_calls():
            with self.subTest(work.__name__):
                answer = work(**{name: as_tuples(value) for name, value in told.items()})
                self.assertEqual(answer, work(**told))
                self.assertEqual(kinds_in(answer), kinds_in(work(**told)))
        self.assertEqual(tables.rank([((1, 1), (2, 1)), [(2, 1), (4, 1)]]), 1)

    def test_by_place_and_by_name(self):
        for work, told in all_calls():
            with self.subTest(work.__name__):
                names = list(told)
                answer = work(*told.values())
                self.assertEqual(work(**told), answer)
                self.assertEqual(work(**{name: told[name] for name in reversed(names)}), answer)
                self.assertEqual(work(told[names[0]], **{name: told[name] for name in names[1:]}), answer)
                self.assertEqual(list(inspect.signature(work).parameters), names)

    def test_what_has_a_default_may_be_left_out(self):
        self.assertEqual(shares.share(top=4), (4, 1))
        self.assertEqual(inspect.signature(shares.share).parameters["bottom"].default, 1)

    def test_asked_again_the_same_is_told(self):
        for work, told in all_calls():
            self.assertEqual(work(**told), work(**copy.deepcopy(told)))


class HandedOn(unittest.TestCase):
    """What the program told goes in again, however great it has grown."""

    def test_shares(self):
        one = shares.share(10 ** 40 - 1, 10 ** 39 + 7)
        for _ in range(8):
            one = shares.times(one, one)
        self.assertGreater(one[0], 10 ** 9000)
        self.assertEqual(shares.over(one, one), (1, 1))
        self.assertEqual(shares.less(one, one), (0, 1))
        self.assertEqual(shares.less(shares.plus(one, (1, 3)), one), (1, 3))
        above, slash, below = shares.share_text(one).partition("/")
        self.assertEqual(slash, "/")
        self.assertTrue(above.isdigit() and below.isdigit())
        self.assertEqual(int(above[-9:]), one[0] % 10 ** 9)
        self.assertEqual(int(below[-9:]), one[1] % 10 ** 9)

    def test_tables(self):
        one = B
        for _ in range(6):
            one = tables.product(one, one)
        self.assertGreater(one[1][1][1], 10 ** 300)
        self.assertEqual(tables.product(one, tables.turned_back(one)), tables.unit(2))
        self.assertEqual(tables.turned_back(tables.turned_back(one)), one)
        self.assertEqual(tables.rank(one), 2)
        self.assertEqual(tables.rank(tables.corners(one, SINGULAR)), 3)
        self.assertEqual(tables.taken(tables.added(one, A), A), one)
        self.assertEqual(tables.scaled(tables.scaled(one, one[0][0]), shares.over((1, 1), one[0][0])), one)

    def test_sizes(self):
        one = A
        for _ in range(3):
            one = tables.corners(one, one)
        self.assertEqual(len(one), 16)
        self.assertEqual(tables.product(tables.turned_back(one), one), tables.unit(16))
        self.assertEqual(tables.rank(tables.corners(one, tables.unit(40))), 56)


if __name__ == "__main__":
    unittest.main()
