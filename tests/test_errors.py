"""The exceptions of the package."""

import unittest

from orderrules import errors


class Errors(unittest.TestCase):
    def test_base(self):
        self.assertEqual(errors.OrderError.__bases__, (ValueError,))

    def test_direct_subclasses(self):
        for name in ("BadRule", "BadText", "BadNumber", "NotFound"):
            with self.subTest(name=name):
                self.assertEqual(getattr(errors, name).__bases__, (errors.OrderError,))

    def test_they_are_four(self):
        self.assertEqual(len(set(errors.OrderError.__subclasses__())), 4)

    def test_they_stand_in_this_file(self):
        for name in ("OrderError", "BadRule", "BadText", "BadNumber", "NotFound"):
            self.assertEqual(getattr(errors, name).__module__, "orderrules.errors")


if __name__ == "__main__":
    unittest.main()
