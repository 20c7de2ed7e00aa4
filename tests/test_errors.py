"""The refusals: their fields, and the classes above them."""

import unittest

from onehistory import errors
from onehistory.errors import HistoryError

# Each refusal, the class straight above it, its fields.
REFUSALS = {
    "NoPath": (HistoryError, ("thing",)),
    "NoChange": (HistoryError, ("word",)),
    "NoRow": (HistoryError, ("number",)),
    "NoMoment": (HistoryError, ("thing",)),
    "NoThing": (IndexError, ("thing",)),
    "NoHandle": (IndexError, ("thing",)),
    "Fault": (LookupError, ("word", "path", "gone")),
    "Fallen": (RuntimeError, ("since",)),
    "NoPattern": (HistoryError, ("thing",)),
    "NoRoom": (HistoryError, ("thing",)),
    "NoWho": (HistoryError, ("thing",)),
    "NoStretch": (HistoryError, ("thing",)),
    "Waiting": (RuntimeError, ("thing",)),
    "NoChoice": (HistoryError, ("thing",)),
    "TooMany": (OverflowError, ("many",)),
    "NoRecipe": (HistoryError, ("thing",)),
    "NoLine": (HistoryError, ("thing",)),
    "Full": (OverflowError, ("size",)),
    "NoArchive": (HistoryError, ("number",)),
    "Outside": (HistoryError, ("number",)),
    "There": (KeyError, ("number",)),
    "NoHand": (HistoryError, ("thing",)),
    "NoWeaving": (HistoryError, ("number",)),
    "NoText": (HistoryError, ("number",)),
    "NoDeskRow": (HistoryError, ("thing",)),
    "NoName": (KeyError, ("thing",)),
}


class TestErrors(unittest.TestCase):
    def test_these_refusals_are_there_and_no_others(self):
        found = [name for name, thing in vars(errors).items() if isinstance(thing, type)]
        self.assertEqual(len(REFUSALS), 26)
        self.assertEqual(sorted(found), sorted([*REFUSALS, "HistoryError"]))

    def test_each_stands_straight_under_the_class_that_is_told(self):
        self.assertEqual(HistoryError.__bases__, (ValueError,))
        for name, (above, _) in REFUSALS.items():
            with self.subTest(name):
                self.assertEqual(getattr(errors, name).__bases__, (above,))
                self.assertEqual(getattr(errors, name).__name__, name)
                self.assertEqual(getattr(errors, name).__module__, "onehistory.errors")

    def test_none_is_one_of_the_others(self):
        classes = [getattr(errors, name) for name in REFUSALS]
        for one in classes:
            self.assertEqual([other for other in classes if issubclass(one, other)], [one])

    def test_under_history_error_are_just_those_that_are_told_so(self):
        for name, (above, _) in REFUSALS.items():
            with self.subTest(name):
                self.assertEqual(issubclass(getattr(errors, name), HistoryError), above is HistoryError)

    def test_fields_are_the_very_values_of_anything(self):
        for name, (_, fields) in REFUSALS.items():
            for thing in (None, True, 0, "", "a path", [], {}, (1, [2]), object(), ValueError("x")):
                with self.subTest(name, thing=thing):
                    values = [[thing, number] for number in range(len(fields))]
                    self.assert_fields(getattr(errors, name)(*values), fields, values)
                    self.assert_fields(getattr(errors, name)(**dict(zip(fields, values))), fields, values)

    def assert_fields(self, error, fields, values):
        self.assertEqual(sorted(vars(error)), sorted(fields))
        for field, value in zip(fields, values):
            self.assertIs(getattr(error, field), value)

    def test_each_takes_just_its_values(self):
        for name, (_, fields) in REFUSALS.items():
            with self.subTest(name):
                with self.assertRaises(TypeError):
                    getattr(errors, name)()
                with self.assertRaises(TypeError):
                    getattr(errors, name)(*range(len(fields) + 1))

    def test_each_can_be_raised_and_caught_by_its_own_name(self):
        for name, (above, fields) in REFUSALS.items():
            with self.subTest(name):
                error = getattr(errors, name)
                with self.assertRaises(error) as caught:
                    raise error(*fields)
                self.assertIsInstance(caught.exception, above)
                self.assertEqual([getattr(caught.exception, field) for field in fields], list(fields))


if __name__ == "__main__":
    unittest.main()
