"""Point [1], the error classes."""

import unittest

from momentrows import errors
from momentrows.errors import MeansError
from tests.samples import ERROR_FIELDS, NO_INTEGERS

VALUES = NO_INTEGERS + [0, -1, 10 ** 5000]


class ErrorClasses(unittest.TestCase):

    def test_means_error_derives_from_value_error(self):
        self.assertEqual(MeansError.__bases__, (ValueError,))
        self.assertIsInstance(MeansError(), ValueError)

    def test_each_class_derives_directly_from_means_error(self):
        for name in ERROR_FIELDS:
            with self.subTest(name):
                self.assertEqual(getattr(errors, name).__bases__, (MeansError,))

    def test_there_are_no_other_error_classes(self):
        found = [name for name in vars(errors) if isinstance(vars(errors)[name], type)]
        self.assertEqual(sorted(found), sorted([*ERROR_FIELDS, "MeansError"]))

    def test_fields_by_position(self):
        for name, fields in ERROR_FIELDS.items():
            for start in range(len(VALUES) - 1):
                values = VALUES[start:start + len(fields)]
                error = getattr(errors, name)(*values)
                for field, value in zip(fields, values):
                    self.assertIs(getattr(error, field), value, name)

    def test_fields_by_name(self):
        for name, fields in ERROR_FIELDS.items():
            for start in range(len(VALUES) - 1):
                values = dict(zip(fields, VALUES[start:]))
                error = getattr(errors, name)(**values)
                for field in fields:
                    self.assertIs(getattr(error, field), values[field], name)

    def test_fields_are_needed(self):
        for name, fields in ERROR_FIELDS.items():
            if fields:
                with self.assertRaises(TypeError):
                    getattr(errors, name)()

    def test_each_can_be_raised_and_caught(self):
        for name, fields in ERROR_FIELDS.items():
            for caught in (getattr(errors, name), MeansError, ValueError):
                with self.assertRaises(caught) as context:
                    raise getattr(errors, name)(*fields)
                for field in fields:
                    self.assertEqual(getattr(context.exception, field), field)
                for other in ERROR_FIELDS:
                    self.assertEqual(isinstance(context.exception, getattr(errors, other)), other == name)


if __name__ == "__main__":
    unittest.main()
