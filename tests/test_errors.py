"""Points [3] and [12]: the errors, what they take and what they keep."""

import inspect
import unittest

from ringreads import errors

PLAIN = [
    "InvalidMarks", "InvalidRecord", "InvalidMark", "InvalidRule", "InvalidNumber", "InvalidCommand", "Impossible",
    "NothingToUndo",
]
FIELDS = {
    "InvalidRecords": "index", "InvalidOrder": "index", "InvalidHeads": "index", "InvalidArrivals": "index",
    "InvalidWindows": "index", "InvalidText": "word", "TooLarge": "limit", "Refused": "count",
}


class ErrorsTest(unittest.TestCase):

    def test_every_name_is_there_and_no_further_one(self):
        classes = [name for name, value in vars(errors).items() if inspect.isclass(value)]
        self.assertEqual(sorted(classes), sorted(["RingError", *PLAIN, *FIELDS]))
        for name in classes:
            self.assertEqual(getattr(errors, name).__module__, "ringreads.errors")

    def test_ring_error_is_a_value_error_that_takes_a_string(self):
        self.assertEqual(errors.RingError.__bases__, (ValueError,))
        self.assertEqual(str(errors.RingError("what is wrong")), "what is wrong")

    def test_every_error_is_a_direct_subclass_of_ring_error(self):
        for name in [*PLAIN, *FIELDS]:
            with self.subTest(name):
                self.assertEqual(getattr(errors, name).__bases__, (errors.RingError,))

    def test_no_error_is_caught_as_another_one(self):
        names = [*PLAIN, *FIELDS]
        for name in names:
            others = tuple(getattr(errors, other) for other in names if other != name)
            self.assertFalse(issubclass(getattr(errors, name), others), name)

    def test_an_error_without_a_field_takes_one_string(self):
        for name in PLAIN:
            with self.subTest(name):
                error = getattr(errors, name)("what is wrong")
                self.assertEqual(str(error), "what is wrong")
                self.assertEqual(vars(error), {})

    def test_an_error_with_a_field_takes_and_keeps_it(self):
        for name, field in FIELDS.items():
            for value in (None, 0, 1, 29, 10 ** 99):
                with self.subTest(name, value=value):
                    self.assertEqual(vars(getattr(errors, name)(value)), {field: value})
                    self.assertEqual(vars(getattr(errors, name)(**{field: value})), {field: value})

    def test_an_error_with_a_field_takes_nothing_else(self):
        for name, field in FIELDS.items():
            with self.subTest(name):
                signature = inspect.signature(getattr(errors, name))
                self.assertEqual(list(signature.parameters), [field])
                self.assertIs(signature.parameters[field].default, inspect.Parameter.empty)

    def test_an_error_can_be_raised_and_caught(self):
        for name in [*PLAIN, *FIELDS]:
            with self.subTest(name):
                with self.assertRaises(ValueError) as caught:
                    raise getattr(errors, name)("7")
                self.assertIs(type(caught.exception), getattr(errors, name))


if __name__ == "__main__":
    unittest.main()
