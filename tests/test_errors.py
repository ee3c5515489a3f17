"""The classes of the refusals."""

import unittest

from longways import errors

PLAIN = (
    "BadSpots", "BadWay", "BadCall", "BadBar", "BadFigure", "BadNumber", "TooMany", "Same", "BadName", "Known",
    "BadKind", "Few", "Full", "Taken", "NoFigure", "NoSet", "NoCouple", "WrongSize", "Fixed", "Last", "NoEntry",
    "NotDanced", "NothingLeft",
)
WITH_FIELD = {"Clash": ("place", 7), "NotOn": ("word", "parted"), "BadText": ("at", 3)}


class Refusals(unittest.TestCase):
    def test_dance_error_stands_straight_under_value_error(self):
        self.assertEqual(errors.DanceError.__bases__, (ValueError,))

    def test_each_refusal_stands_straight_under_dance_error(self):
        for name in PLAIN + tuple(WITH_FIELD):
            with self.subTest(name):
                self.assertEqual(getattr(errors, name).__bases__, (errors.DanceError,))

    def test_there_is_no_other_refusal(self):
        told = {name for name, value in vars(errors).items() if isinstance(value, type)}
        self.assertEqual(told, {"DanceError", *PLAIN, *WITH_FIELD})

    def test_plain_refusals_are_raised_and_taken_by_their_own_class_alone(self):
        for name in PLAIN:
            refusal = getattr(errors, name)
            for other in PLAIN:
                with self.subTest(raised=name, taken=other):
                    self.assertEqual(isinstance(refusal("why"), getattr(errors, other)), name == other)

    def test_fields_are_set_when_the_refusal_is_made(self):
        for name, (field, value) in WITH_FIELD.items():
            with self.subTest(name):
                refusal = getattr(errors, name)
                self.assertEqual(getattr(refusal(value), field), value)
                self.assertEqual(getattr(refusal(**{field: value}), field), value)

    def test_fields_of_two_refusals_are_their_own(self):
        one, other = errors.Clash(1), errors.Clash(2)
        self.assertEqual((one.place, other.place), (1, 2))


if __name__ == "__main__":
    unittest.main()
