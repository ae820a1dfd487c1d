"""[2], [21]: the error classes."""

import unittest

from regroups import errors

UNDER_LOOKUP_ERROR = {
    "NoFactor": ("factor",), "NoJoin": ("join",), "NoNumber": ("number",), "NoName": ("name",),
}
UNDER_VALUE_ERROR = {
    "Unlike": (), "NotBehind": (), "NotOpen": ("join",), "Crossed": ("one", "other"), "TooMany": ("most",),
    "Taken": ("name",), "LastOne": (), "BadText": (), "BadLine": ("number",), "NothingDone": (), "Gainsaid": (),
}
EVERY_ERROR = {**UNDER_LOOKUP_ERROR, **UNDER_VALUE_ERROR}
VALUES = (0, -3, 10 ** 5000, "name", (1, 2), None)


class ErrorsTest(unittest.TestCase):
    def test_all_of_them_are_there_and_no_others(self):
        found = [name for name, value in vars(errors).items() if isinstance(value, type)]
        self.assertEqual(sorted(found), sorted(EVERY_ERROR))

    def test_each_is_directly_under_its_built_in_class_alone(self):
        for name in UNDER_LOOKUP_ERROR:
            self.assertEqual(getattr(errors, name).__bases__, (LookupError,), name)
        for name in UNDER_VALUE_ERROR:
            self.assertEqual(getattr(errors, name).__bases__, (ValueError,), name)

    def test_each_is_defined_in_its_file(self):
        for name in EVERY_ERROR:
            self.assertEqual(getattr(errors, name).__module__, "regroups.errors")
            self.assertEqual(getattr(errors, name).__name__, name)

    def test_values_by_place_and_by_name(self):
        for name, attributes in EVERY_ERROR.items():
            for shift in range(len(VALUES)):
                values = [VALUES[(shift + at) % len(VALUES)] for at in range(len(attributes))]
                told = dict(zip(attributes, values))
                for error in (getattr(errors, name)(*values), getattr(errors, name)(**told)):
                    self.assertEqual(vars(error), told, name)
                    for attribute, value in told.items():
                        self.assertIs(getattr(error, attribute), value)

    def test_values_are_asked_for(self):
        for name, attributes in EVERY_ERROR.items():
            if attributes:
                with self.assertRaises(TypeError, msg=name):
                    getattr(errors, name)()

    def test_each_is_raised_and_caught_by_its_name_and_its_built_in_class(self):
        for names, built_in in ((UNDER_LOOKUP_ERROR, LookupError), (UNDER_VALUE_ERROR, ValueError)):
            for name, attributes in names.items():
                for kind in (built_in, getattr(errors, name)):
                    with self.assertRaises(kind):
                        raise getattr(errors, name)(*range(len(attributes)))

    def test_an_error_equals_nothing_of_another_class(self):
        self.assertFalse(errors.NoJoin(1) == errors.NotOpen(1))
        self.assertFalse(errors.NoJoin(1) == 1)
        self.assertFalse(errors.Unlike() == errors.NotBehind())


if __name__ == "__main__":
    unittest.main()
