import unittest

from common import REFUSALS
from cranefloor.errors import CraneError


class ErrorClasses(unittest.TestCase):
    def test_crane_error_stands_straight_under_value_error(self):
        self.assertEqual(CraneError.__bases__, (ValueError,))

    def test_each_refusal_stands_straight_under_crane_error(self):
        for refusal in REFUSALS:
            self.assertEqual(refusal.__bases__, (CraneError,), refusal)

    def test_no_refusal_stands_under_another_one(self):
        for one in REFUSALS:
            for other in REFUSALS:
                self.assertEqual(issubclass(one, other), one is other, (one, other))

    def test_the_classes_have_their_names(self):
        names = [refusal.__name__ for refusal in REFUSALS]
        self.assertEqual(
            names,
            ["NoFloor", "NoStanding", "NoLift", "OtherCrates", "TooMany", "NoNames", "NoOrder", "BadText"],
        )


if __name__ == "__main__":
    unittest.main()
