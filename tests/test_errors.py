"""The refusals' classes."""

import unittest

from maskwright import errors

NAMES = ("NoCell", "TooMuch", "NoSwitch", "NoGiven", "TooLong", "Ringed", "NoText", "NoRow", "NoDeed")


def classes():
    return [getattr(errors, name) for name in NAMES]


class TestErrors(unittest.TestCase):
    def test_mask_error_is_a_value_error(self):
        self.assertTrue(issubclass(errors.MaskError, ValueError))

    def test_each_is_a_mask_error_and_a_value_error(self):
        for kind in classes():
            self.assertTrue(issubclass(kind, errors.MaskError), kind)
            self.assertTrue(issubclass(kind, ValueError), kind)
            self.assertIsNot(kind, errors.MaskError)

    def test_none_is_under_another_one(self):
        for one in classes():
            for other in classes():
                self.assertEqual(issubclass(one, other), one is other, (one, other))

    def test_values_are_set_when_created(self):
        refusal = errors.NoSwitch(-3, 4)
        self.assertEqual((refusal.x, refusal.y), (-3, 4))
        self.assertEqual(errors.Ringed((1, 2)).ring, (1, 2))
        self.assertEqual(errors.NoText(5).at, 5)

    def test_values_are_each_objects_own(self):
        one, other = errors.NoSwitch(1, 2), errors.NoSwitch(3, 4)
        self.assertEqual((one.x, one.y, other.x, other.y), (1, 2, 3, 4))

    def test_each_is_caught_as_mask_error(self):
        for refusal in (errors.NoSwitch(0, 0), errors.Ringed(()), errors.NoText(0), errors.NoCell("words")):
            with self.assertRaises(errors.MaskError):
                raise refusal


if __name__ == "__main__":
    unittest.main()
