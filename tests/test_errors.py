"""The refusals of the interface: their words, their fields and what they are under."""

import unittest

from nevernought import errors

# Each refusal with the fields that the interface tells, in their order.
UNDER_NEVER = {
    "BadShare": (), "ByNought": (), "BadTable": ("at",), "Unfit": (), "BadTerm": ("flaw",),
    "BadTables": ("letter",), "BadText": ("at",), "BadWeb": ("letter",), "BadSquare": (),
    "Unsound": ("which", "place"), "Unsteady": ("place",), "BadNumber": ("number",),
    "BadMachine": (), "BadName": ("name",), "BadWord": ("word_told",), "Taken": ("name",),
    "Full": ("most",), "Ring": ("name",), "InUse": ("name",), "Breaks": ("name",),
    "NotSo": (), "BadDeed": (), "Stopped": ("at", "why"), "BadPage": ("row",),
}
UNDER_MISSING = {"NoLetter": ("letter",), "NoName": ("name",), "NothingLeft": ()}
NUMBERS = ("at", "place", "number", "most", "row", "which")


def value_for(field):
    """A value of the kind that the field has, another for each field."""
    if field in NUMBERS:
        return 3 + NUMBERS.index(field)
    return "of " + field


class Refusals(unittest.TestCase):
    def check_all(self, names, base, ground):
        for name, fields in names.items():
            with self.subTest(name):
                made = getattr(errors, name)
                values = [value_for(field) for field in fields]
                refusal = made(*values)
                self.assertEqual(refusal.word, name)
                self.assertEqual([getattr(refusal, field) for field in fields], values)
                self.assertEqual(sorted(vars(refusal)), sorted(["word", *fields]))
                self.assertEqual(made.__bases__, (base,))
                self.assertIsInstance(refusal, ground)
                with self.assertRaises(made) as caught:
                    raise refusal
                self.assertEqual(caught.exception.word, name)
                self.assertIsInstance(str(refusal), str)

    def test_straight_under_never_error(self):
        self.check_all(UNDER_NEVER, errors.NeverError, ValueError)

    def test_straight_under_missing(self):
        self.check_all(UNDER_MISSING, errors.Missing, LookupError)

    def test_the_two_above_the_others(self):
        self.assertEqual(errors.NeverError.__bases__, (ValueError,))
        self.assertEqual(errors.Missing.__bases__, (LookupError,))
        self.assertEqual(errors.NeverError().word, "NeverError")
        self.assertEqual(errors.Missing().word, "Missing")

    def test_neither_is_under_the_other(self):
        self.assertNotIsInstance(errors.NoName("A"), ValueError)
        self.assertNotIsInstance(errors.BadName("A"), LookupError)

    def test_nothing_else_is_there(self):
        told = {name for name, made in vars(errors).items() if isinstance(made, type)}
        self.assertEqual(told, {"NeverError", "Missing", *UNDER_NEVER, *UNDER_MISSING})

    def test_the_fields_are_needed_and_no_more(self):
        for name, fields in {**UNDER_NEVER, **UNDER_MISSING}.items():
            made = getattr(errors, name)
            with self.subTest(name):
                self.assertRaises(TypeError, made, *([1] * (len(fields) + 1)))
                if fields:
                    self.assertRaises(TypeError, made, *([1] * (len(fields) - 1)))

    def test_fields_stay_as_they_are_told(self):
        self.assertEqual(errors.Stopped(0, "BadDeed").at, 0)
        self.assertEqual(errors.Stopped(0, "BadDeed").why, "BadDeed")
        self.assertEqual(errors.BadName("").name, "")
        self.assertEqual(errors.Unsound("Ab", 5).which, "Ab")
        self.assertEqual(errors.BadNumber(10 ** 6000).number, 10 ** 6000)


if __name__ == "__main__":
    unittest.main()
