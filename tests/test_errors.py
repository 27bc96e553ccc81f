"""The errors: points [0.2] and the interface."""

import unittest

from trackworth import errors
from tests.support import assert_same

NAMES = (
    "BadYard", "BadTrack", "BadPick", "BadLane", "BadRow", "BadWagon", "BadDealing", "TooMany", "BadStand", "BadMove",
    "NoneThere", "NotDue", "Stuck", "BadPicks", "BadJournal", "Spoilt", "Red", "BadNumber", "BadPrices", "NotForest",
    "Unlike", "BadNamed", "BadNames", "BadName", "BadText", "NoName", "NoTrack", "Twice", "NotShut", "NothingToUndo",
    "NothingToRedo", "NoTrain",
)


class ErrorsTest(unittest.TestCase):

    def test_refused_stands_directly_under_value_error(self):
        self.assertEqual(errors.Refused.__bases__, (ValueError,))

    def test_each_other_class_stands_directly_under_refused(self):
        for name in NAMES:
            self.assertEqual(getattr(errors, name).__bases__, (errors.Refused,), name)

    def test_there_are_no_other_classes(self):
        found = [name for name, value in vars(errors).items() if isinstance(value, type)]
        self.assertEqual(sorted(found), sorted(NAMES + ("Refused",)))

    def test_each_class_is_called_as_it_is_listed(self):
        for name in NAMES + ("Refused",):
            self.assertEqual(getattr(errors, name).__name__, name)
            self.assertEqual(getattr(errors, name).__module__, "trackworth.errors")

    def test_what_keeps_the_one_argument(self):
        for name in NAMES + ("Refused",):
            for what in (-1, 0, 7, True, None, "a", (), (0, 3, 2, 1), ("in", 0)):
                assert_same(self, getattr(errors, name)(what).what, what)

    def test_one_argument_is_asked_for(self):
        for name in NAMES + ("Refused",):
            with self.assertRaises(TypeError):
                getattr(errors, name)()
            with self.assertRaises(TypeError):
                getattr(errors, name)(1, 2)

    def test_all_are_caught_as_refused_and_none_as_another_one(self):
        for name in NAMES:
            error = getattr(errors, name)(0)
            caught = [other for other in NAMES if isinstance(error, getattr(errors, other))]
            self.assertEqual(caught, [name])
            self.assertIsInstance(error, errors.Refused)


if __name__ == "__main__":
    unittest.main()
