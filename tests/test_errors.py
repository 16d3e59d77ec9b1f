"""Point 2 and the interface: the refusals."""

import unittest

from swapstars import errors
from tests.helper import REFUSALS


class RefusalsStandSideBySide(unittest.TestCase):
    def test_base_is_straight_under_value_error(self):
        self.assertEqual(errors.StarError.__bases__, (ValueError,))

    def test_each_is_straight_under_the_base(self):
        for name in REFUSALS:
            with self.subTest(name):
                self.assertEqual(getattr(errors, name).__bases__, (errors.StarError,))

    def test_there_are_twelve_and_no_two_are_one(self):
        found = {getattr(errors, name) for name in REFUSALS}
        self.assertEqual(len(found), 12)
        told = {name for name, what in vars(errors).items() if isinstance(what, type)}
        self.assertEqual(told, set(REFUSALS) | {"StarError"})

    def test_one_is_caught_by_its_name_and_by_no_other(self):
        for name in REFUSALS:
            refusal = getattr(errors, name)("why")
            self.assertEqual([other for other in REFUSALS if isinstance(refusal, getattr(errors, other))], [name])
            self.assertIsInstance(refusal, ValueError)


if __name__ == "__main__":
    unittest.main()
