"""The heading unpartedrows/errors.py and the opening of the interface."""

import unittest

from unpartedrows import errors

NAMES = ("InvalidTable", "InvalidOrder", "InvalidTree", "InvalidMeetings", "InvalidText", "OutOfRange")


class Errors(unittest.TestCase):
    def test_base_class_stands_directly_under_value_error(self):
        self.assertEqual(errors.UnpartedError.__bases__, (ValueError,))

    def test_each_error_stands_directly_under_the_base_class(self):
        for name in NAMES:
            with self.subTest(name):
                self.assertEqual(getattr(errors, name).__bases__, (errors.UnpartedError,))

    def test_each_error_is_defined_in_the_file(self):
        for name in NAMES + ("UnpartedError",):
            with self.subTest(name):
                self.assertEqual(getattr(errors, name).__module__, "unpartedrows.errors")

    def test_no_error_is_caught_as_another_one(self):
        for name in NAMES:
            for other in NAMES:
                with self.subTest(name=name, other=other):
                    self.assertEqual(issubclass(getattr(errors, name), getattr(errors, other)), name == other)
