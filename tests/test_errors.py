"""Promise [5]: the errors."""

import unittest

from untriedways import errors
from untriedways.errors import NoCookery, NoMap, TooMany, WayError
from tests.samples import odd_values

PLAIN = (
    "NoStanding NoTry NoNews NoWorld Done NoTries NoRun NoPlan NoName NoPart NoNumber ManyGoals "
    "NoWays NoFacts NoWorlds NoPrices NoChances NoStack NoArrow NoPlace NotDone NotSensible "
    "HasRing NoText NoLine NothingDone"
).split()
WITH_FIELD = {"NoMap": "part", "NoCookery": "part", "TooMany": "most"}


def made():
    """One error of each name, but WayError."""
    found = {name: getattr(errors, name)() for name in PLAIN}
    found.update({name: getattr(errors, name)("many") for name in WITH_FIELD})
    return found


class ErrorsTest(unittest.TestCase):
    def test_way_error_is_a_value_error_without_fields(self):
        error = WayError()
        self.assertIsInstance(error, ValueError)
        self.assertEqual(WayError.__bases__, (ValueError,))
        self.assertEqual(vars(error), {})

    def test_each_other_one_is_a_direct_subclass(self):
        for name in made():
            with self.subTest(name):
                self.assertEqual(getattr(errors, name).__bases__, (WayError,))

    def test_each_one_is_an_instance_of_no_other_one(self):
        for name, error in made().items():
            for other in made():
                with self.subTest(name, other=other):
                    self.assertEqual(isinstance(error, getattr(errors, other)), name == other)
            self.assertIsInstance(error, WayError)
            self.assertIsInstance(error, ValueError)

    def test_way_error_is_none_of_them(self):
        for name in made():
            self.assertNotIsInstance(WayError(), getattr(errors, name))

    def test_each_can_be_raised_and_caught(self):
        for name, error in made().items():
            for kind in (getattr(errors, name), WayError, ValueError):
                with self.assertRaises(kind):
                    raise error

    def test_fields_are_kept_whatever_they_are(self):
        for name, field in WITH_FIELD.items():
            for value in odd_values() + ["goals", 9, 1.5, object()]:
                error = getattr(errors, name)(value)
                self.assertIs(getattr(error, field), value)
                self.assertEqual(list(vars(error)), [field])

    def test_messages_can_be_read_whatever_the_field_is(self):
        for kind in (NoMap, NoCookery, TooMany):
            for value in odd_values():
                self.assertIsInstance(str(kind(value)), str)

    def test_fields_are_asked_for(self):
        for kind in (NoMap, NoCookery, TooMany):
            with self.assertRaises(TypeError):
                kind()
            with self.assertRaises(TypeError):
                kind(1, 2)

    def test_there_are_no_others(self):
        defined = {
            name
            for name, value in vars(errors).items()
            if isinstance(value, type) and not name.startswith("_")
        }
        self.assertEqual(defined, {"WayError", *PLAIN, *WITH_FIELD})
