"""The error classes, and which stands under which."""

import unittest

from evenquay.errors import NoFleet, NoName, NoPlan, NoRow, NoShip, NoText, QuayError

REFUSALS = (NoFleet, NoPlan, NoText, NoRow, NoName, NoShip)


class Errors(unittest.TestCase):
    def test_any_refusal_is_a_value_error(self):
        self.assertEqual(QuayError.__bases__, (ValueError,))

    def test_each_stands_straight_under_quay_error(self):
        for refusal in REFUSALS:
            self.assertEqual(refusal.__bases__, (QuayError,))

    def test_none_stands_under_another(self):
        for one in REFUSALS:
            for other in REFUSALS:
                self.assertEqual(issubclass(one, other), one is other)

    def test_each_has_its_name(self):
        names = [refusal.__name__ for refusal in REFUSALS + (QuayError,)]
        self.assertEqual(names, ["NoFleet", "NoPlan", "NoText", "NoRow", "NoName", "NoShip", "QuayError"])

    def test_each_is_raised_and_taken_with_words(self):
        for refusal in REFUSALS + (QuayError,):
            for taken in (refusal, QuayError, ValueError):
                with self.assertRaises(taken) as held:
                    raise refusal("why")
                self.assertEqual(str(held.exception), "why")


if __name__ == "__main__":
    unittest.main()
