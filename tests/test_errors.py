"""The interface of setmend/errors.py."""

import unittest

import setmend.errors as errors
from setmend.errors import MendError

NAMES = (
    "NoSet", "NoMark", "NoInverse", "NoCount", "NoHand", "NoLetter",
    "NoText", "Held", "NotHeld", "Unlike", "Late",
)


class ErrorsTest(unittest.TestCase):
    def test_mend_error_is_a_value_error(self):
        self.assertEqual(MendError.__bases__, (ValueError,))
        self.assertEqual((MendError.__module__, MendError.__name__), ("setmend.errors", "MendError"))

    def test_each_error_stands_under_mend_error_alone(self):
        for name in NAMES:
            found = getattr(errors, name)
            self.assertEqual(found.__bases__, (MendError,), name)
            self.assertEqual((found.__module__, found.__name__), ("setmend.errors", name))

    def test_no_two_errors_are_the_same(self):
        self.assertEqual(len({getattr(errors, name) for name in NAMES}), len(NAMES))

    def test_each_error_is_caught_as_itself_and_as_no_other_one(self):
        for name in NAMES:
            raised = getattr(errors, name)("why")
            kin = [other for other in NAMES if isinstance(raised, getattr(errors, other))]
            self.assertEqual(kin, [name])
            self.assertIsInstance(raised, MendError)
            self.assertIsInstance(raised, ValueError)


if __name__ == "__main__":
    unittest.main()
