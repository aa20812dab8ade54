"""Point 11: the classes of the refusals."""

import unittest

from numberpile import errors

NAMES = ["NoShares", "NoPile", "NoSign", "NoSlot", "NoMore", "NoText", "NotLeaf"]


class TestErrors(unittest.TestCase):
    def test_pile_error_is_a_value_error(self):
        self.assertTrue(issubclass(errors.PileError, ValueError))

    def test_each_refusal_stands_straight_under_pile_error(self):
        for name in NAMES:
            with self.subTest(name=name):
                self.assertEqual(getattr(errors, name).__bases__, (errors.PileError,))

    def test_each_refusal_is_of_its_own(self):
        for name in NAMES:
            for other in NAMES:
                with self.subTest(name=name, other=other):
                    one = getattr(errors, name)
                    self.assertEqual(issubclass(one, getattr(errors, other)), name == other)

    def test_each_is_raised_and_taken(self):
        for name in NAMES:
            with self.subTest(name=name):
                with self.assertRaises(errors.PileError):
                    raise getattr(errors, name)("words")
                with self.assertRaises(ValueError):
                    raise getattr(errors, name)("words")


if __name__ == "__main__":
    unittest.main()
