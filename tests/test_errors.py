"""The nine refusals and what stands above them."""

import unittest

from powerrows import errors

NAMES = [
    "BadPrime", "BadRow", "BadCount", "BadRule", "BadPlaces", "BadTerms", "NoPart", "NoInside", "NoRoot",
]


class Errors(unittest.TestCase):
    def test_power_error_is_a_value_error(self):
        self.assertEqual(errors.PowerError.__bases__, (ValueError,))
        self.assertEqual(errors.PowerError.__module__, "powerrows.errors")

    def test_the_nine_stand_straight_under_it(self):
        for name in NAMES:
            with self.subTest(name):
                refusal = getattr(errors, name)
                self.assertEqual(refusal.__bases__, (errors.PowerError,))
                self.assertEqual(refusal.__module__, "powerrows.errors")
                self.assertEqual(refusal.__name__, name)

    def test_there_are_just_nine(self):
        self.assertEqual({kind.__name__ for kind in errors.PowerError.__subclasses__()}, set(NAMES))


if __name__ == "__main__":
    unittest.main()
