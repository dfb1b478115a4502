"""Promises [20] and, of errors, [4]."""

import unittest

from helpers import ERRORS, any_values

from answerskept import errors


class ErrorsTest(unittest.TestCase):
    def test_all_classes_are_there_and_no_others(self):
        found = [name for name in vars(errors) if isinstance(vars(errors)[name], type)]
        self.assertEqual(len(ERRORS), 22)
        self.assertEqual(sorted(found), sorted([*ERRORS, "KeptError"]))

    def test_base_stands_directly_under_value_error(self):
        self.assertEqual(errors.KeptError.__bases__, (ValueError,))

    def test_each_stands_directly_under_the_base(self):
        for name in ERRORS:
            made = getattr(errors, name)
            self.assertEqual(made.__bases__, (errors.KeptError,), name)
            self.assertTrue(issubclass(made, ValueError), name)

    def test_each_keeps_the_very_objects(self):
        values = any_values()
        for name, fields in ERRORS.items():
            for at, value in enumerate(values):
                arguments = [value, values[at - 1]][:len(fields)]
                made = getattr(errors, name)(*arguments)
                for field, argument in zip(fields, arguments):
                    self.assertIs(getattr(made, field), argument, name)

    def test_nothing_else_is_kept_as_a_field(self):
        for name, fields in ERRORS.items():
            made = getattr(errors, name)(*([0] * len(fields)))
            self.assertEqual(tuple(vars(made)), fields)

    def test_each_takes_just_its_arguments(self):
        for name, fields in ERRORS.items():
            if fields:
                with self.assertRaises(TypeError):
                    getattr(errors, name)(*([0] * (len(fields) - 1)))
                with self.assertRaises(TypeError):
                    getattr(errors, name)(*([0] * (len(fields) + 1)))

    def test_each_is_raised_and_caught(self):
        for name, fields in ERRORS.items():
            for caught in (getattr(errors, name), errors.KeptError, ValueError):
                with self.assertRaises(caught) as held:
                    raise getattr(errors, name)(*([[]] * len(fields)))
                self.assertIsInstance(str(held.exception), str)

    def test_each_is_caught_by_no_other(self):
        for name, fields in ERRORS.items():
            made = getattr(errors, name)(*([0] * len(fields)))
            for other in ERRORS:
                self.assertEqual(isinstance(made, getattr(errors, other)), name == other)


if __name__ == "__main__":
    unittest.main()
