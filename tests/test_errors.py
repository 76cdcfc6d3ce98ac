"""The error classes: what they derive from and what they keep (0.3, the interface)."""

import copy
import unittest

from things import odd_things
from turnsneeded import errors
from turnsneeded.errors import TurnError

FIELDS = {
    "BadProgram": ("part",), "NoNames": (), "NoMatrix": (), "NoNumber": (), "OtherSides": (), "NoLot": (),
    "NoReading": (), "BadText": ("line",), "NoLog": (), "NoTable": (), "TooMany": ("most",), "NoWorld": (),
    "BadTask": ("part",), "NoTimetable": (), "NoPoint": (), "NoBox": (), "NotWorking": (), "NoModulus": (),
    "NoMeaning": (), "BadBorder": ("table", "point"), "BadDone": ("index",), "BadPick": ("index",), "Full": (),
    "NotThere": (), "NothingDone": (), "NoLine": (), "NoName": ("name",), "NotRead": (), "NotInside": (),
    "NotFixed": (),
}


class Family(unittest.TestCase):
    def test_all_are_there_and_no_other(self):
        there = [name for name, thing in vars(errors).items() if isinstance(thing, type)]
        self.assertEqual(sorted(there), sorted([*FIELDS, "TurnError"]))

    def test_turn_error_derives_directly_from_value_error(self):
        self.assertEqual(TurnError.__bases__, (ValueError,))

    def test_each_derives_directly_from_turn_error_and_from_no_other(self):
        for name in FIELDS:
            kind = getattr(errors, name)
            self.assertEqual(kind.__name__, name)
            self.assertEqual(kind.__bases__, (TurnError,))
            self.assertEqual(kind.__mro__[1:3], (TurnError, ValueError))

    def test_each_is_caught_as_itself_as_turn_error_and_as_value_error_alone(self):
        for name, fields in FIELDS.items():
            made = getattr(errors, name)(*fields)
            self.assertIsInstance(made, TurnError)
            self.assertIsInstance(made, ValueError)
            others = [getattr(errors, other) for other in FIELDS if other != name]
            self.assertNotIsInstance(made, tuple(others))
            self.assertNotIsInstance(made, (LookupError, TypeError, ArithmeticError))


class Fields(unittest.TestCase):
    def test_each_keeps_what_is_passed_of_whatever_kind_in_just_its_fields(self):
        for name, fields in FIELDS.items():
            for thing in [*odd_things(), 1.5, 2j, {1}, frozenset()]:
                passed = [[thing] if k else thing for k in range(len(fields))]
                made = getattr(errors, name)(*passed)
                self.assertEqual(list(vars(made)), list(fields))
                for field, told in zip(fields, passed):
                    self.assertIs(getattr(made, field), told)

    def test_each_is_made_with_just_its_fields(self):
        for name, fields in FIELDS.items():
            kind = getattr(errors, name)
            with self.assertRaises(TypeError):
                kind(*fields, "one more")
            for few in range(len(fields)):
                with self.assertRaises(TypeError):
                    kind(*fields[:few])

    def test_each_goes_through_raise_and_copy(self):
        for name, fields in FIELDS.items():
            kind = getattr(errors, name)
            with self.assertRaises(kind) as caught:
                raise kind(*fields)
            again = copy.copy(caught.exception)
            self.assertIs(type(again), kind)
            self.assertEqual(vars(again), {field: field for field in fields})

    def test_turn_error_itself_keeps_nothing(self):
        self.assertEqual(vars(TurnError()), {})

    def test_an_error_is_equal_to_nothing_of_another_kind(self):
        for name, fields in FIELDS.items():
            made = getattr(errors, name)(*fields)
            for thing in odd_things():
                self.assertFalse(made == thing)
                self.assertTrue(made != thing)


if __name__ == "__main__":
    unittest.main()
