"""The interface: clicktrain/errors.py."""

import unittest

from clicktrain import errors

NAMES = ("NoBack", "NoCount", "NoLine", "NoName", "NoPushes", "NoRow", "NoStand", "NoText",
         "NoTrain", "NoWear", "NoWheel", "TooMany")


class Errors(unittest.TestCase):
    def test_train_error_is_a_value_error(self):
        self.assertEqual(errors.TrainError.__bases__, (ValueError,))

    def test_the_twelve_stand_right_under_train_error(self):
        for name in NAMES:
            kind = getattr(errors, name)
            self.assertEqual(kind.__bases__, (errors.TrainError,), name)
            self.assertEqual(kind.__name__, name)
            self.assertEqual(kind.__module__, "clicktrain.errors")

    def test_no_two_names_are_one_class(self):
        kinds = [getattr(errors, name) for name in NAMES]
        self.assertEqual(len(set(kinds)), 12)

    def test_each_can_be_raised_and_caught_as_a_value_error(self):
        for name in NAMES:
            kind = getattr(errors, name)
            with self.assertRaises(ValueError) as caught:
                raise kind("why")
            self.assertIs(type(caught.exception), kind)


if __name__ == "__main__":
    unittest.main()
