"""Promise [4]: the errors."""

import unittest

from sentparts import errors
from sentparts.ways import Ways
from tests.values import any_values

PARAMETERS = {
    "InvalidWays": ["word"],
    "InvalidTable": ["word"],
    "InvalidTest": ["word"],
    "InvalidStep": ["word"],
    "InvalidQuestion": ["at", "word"],
    "InvalidText": ["at"],
    "InvalidCommand": [],
    "Mismatch": [],
    "NoRow": ["at"],
    "NoStep": ["at"],
    "NoColumn": ["name"],
}
LOOKUPS = {"NoRow": IndexError, "NoStep": IndexError, "NoColumn": KeyError}
PART_ERRORS = [name for name in PARAMETERS if name not in LOOKUPS]


class Descent(unittest.TestCase):
    def test_part_error_is_a_direct_subclass_of_value_error(self):
        self.assertEqual(errors.PartError.__bases__, (ValueError,))

    def test_part_errors_are_direct_subclasses_of_part_error(self):
        for name in PART_ERRORS:
            with self.subTest(name):
                self.assertEqual(getattr(errors, name).__bases__, (errors.PartError,))

    def test_lookup_errors_are_direct_subclasses_of_pythons_own(self):
        for name, base in LOOKUPS.items():
            with self.subTest(name):
                self.assertEqual(getattr(errors, name).__bases__, (base,))
                self.assertFalse(issubclass(getattr(errors, name), ValueError))

    def test_none_is_derived_from_another_one(self):
        for one in PARAMETERS:
            for other in PARAMETERS:
                with self.subTest(one=one, other=other):
                    derived = issubclass(getattr(errors, one), getattr(errors, other))
                    self.assertEqual(derived, one == other)

    def test_each_is_defined_in_its_module(self):
        for name in ["PartError", *PARAMETERS]:
            with self.subTest(name):
                self.assertEqual(getattr(errors, name).__module__, "sentparts.errors")


class Attributes(unittest.TestCase):
    def test_attributes_are_the_very_arguments(self):
        things = [*any_values(), object(), {}, {1}, 1.5, b"x", len, Ways]
        for name, parameters in PARAMETERS.items():
            for thing in things:
                told = {parameter: [thing, parameter] for parameter in parameters}
                by_place = getattr(errors, name)(*told.values())
                by_name = getattr(errors, name)(**told)
                for parameter in parameters:
                    with self.subTest(name, parameter=parameter):
                        self.assertIs(getattr(by_place, parameter), told[parameter])
                        self.assertIs(getattr(by_name, parameter), told[parameter])

    def test_things_are_not_copied_or_converted(self):
        for name, parameters in PARAMETERS.items():
            for thing in any_values():
                if len(parameters) == 1:
                    with self.subTest(name):
                        self.assertIs(getattr(getattr(errors, name)(thing), parameters[0]), thing)

    def test_invalid_question_keeps_the_number_and_the_word(self):
        error = errors.InvalidQuestion(-1, "columns")
        self.assertEqual((error.at, error.word), (-1, "columns"))

    def test_a_list_that_is_changed_later_is_changed_there(self):
        for name, parameters in PARAMETERS.items():
            for parameter in parameters:
                told = {each: None for each in parameters}
                told[parameter] = [1]
                error = getattr(errors, name)(**told)
                told[parameter].append(2)
                with self.subTest(name, parameter=parameter):
                    self.assertEqual(getattr(error, parameter), [1, 2])

    def test_those_without_arguments_are_made_without(self):
        for error in (errors.InvalidCommand(), errors.Mismatch(), errors.PartError()):
            self.assertIsInstance(error, errors.PartError)

    def test_they_are_raised_and_caught(self):
        for name, parameters in PARAMETERS.items():
            told = list(range(len(parameters)))
            base = LOOKUPS.get(name, errors.PartError)
            with self.subTest(name):
                with self.assertRaises(base) as caught:
                    raise getattr(errors, name)(*told)
                self.assertEqual([getattr(caught.exception, parameter) for parameter in parameters], told)

    def test_errors_are_not_iterable(self):
        for name, parameters in PARAMETERS.items():
            with self.subTest(name), self.assertRaises(TypeError):
                iter(getattr(errors, name)(*parameters))


if __name__ == "__main__":
    unittest.main()
