import unittest

from helper import any_values
from scooprow import errors

WITH_FIELDS = {"BadRow": "field", "BadCarrier": "k", "Blocked": "k", "Apart": "k",
               "Inconsistent": "n", "BadName": "name", "At": "k", "BadText": "k"}
WITH_MESSAGES = ["BadIndex", "BadNumber", "BadCapacity", "BadHolder", "BadTrains", "BadCounts",
                 "BadSet", "BadLimits", "BadLook", "Crowded", "BadVector", "BadOperation"]


def error_class(name):
    return getattr(errors, name)


class ErrorsTest(unittest.TestCase):
    def test_all_are_direct_subclasses(self):
        self.assertEqual(errors.ScoopError.__bases__, (ValueError,))
        for name in list(WITH_FIELDS) + WITH_MESSAGES:
            self.assertEqual(error_class(name).__bases__, (errors.ScoopError,), name)

    def test_none_is_another_one(self):
        names = list(WITH_FIELDS) + WITH_MESSAGES
        self.assertEqual(len({error_class(name) for name in names}), 20)
        for one in names:
            for other in names:
                related = issubclass(error_class(one), error_class(other))
                self.assertEqual(related, one == other, (one, other))

    def test_no_further_classes(self):
        defined = {name for name, value in vars(errors).items() if isinstance(value, type)}
        self.assertEqual(defined, {"ScoopError"} | set(WITH_FIELDS) | set(WITH_MESSAGES))

    def test_fields_by_position_and_by_name(self):
        for name, field in WITH_FIELDS.items():
            for value in any_values():
                self.assertEqual(repr(vars(error_class(name)(value))), repr({field: value}))
                named = error_class(name)(**{field: value})
                self.assertIs(getattr(named, field), vars(named)[field])
                self.assertEqual(repr(vars(named)), repr({field: value}))

    def test_a_field_may_be_too_long_to_write_out(self):
        for name, field in WITH_FIELDS.items():
            error = error_class(name)(10 ** 5000)
            self.assertEqual(getattr(error, field), 10 ** 5000)
            self.assertIsInstance(str(error), str)

    def test_field_is_needed(self):
        for name in WITH_FIELDS:
            self.assertRaises(TypeError, error_class(name))
            self.assertRaises(TypeError, error_class(name), 1, 2)
            self.assertRaises(TypeError, lambda: error_class(name)(message="text"))

    def test_messages(self):
        for name in WITH_MESSAGES + ["ScoopError"]:
            error = error_class(name)("some words")
            self.assertEqual((str(error), error.args, vars(error)), ("some words", ("some words",), {}))

    def test_each_is_raised_and_caught(self):
        for name in list(WITH_FIELDS) + WITH_MESSAGES:
            for caught in (error_class(name), errors.ScoopError, ValueError):
                with self.assertRaises(caught):
                    raise error_class(name)("words")


if __name__ == "__main__":
    unittest.main()
