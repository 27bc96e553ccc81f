"""The full search of the tests, against trying all dealings one by one."""

import unittest
from itertools import permutations, product

from tests.search import can_be_dealt
from tests.support import SQUARE, all_picks, dice_of, some_pick, some_row, some_yard
from tests.test_waits import told_by_rule, waits_by_rule


def some_dealing_works(yard, pick, row):
    """Whether one of all dealings over the pick works."""
    dealings = product(pick, repeat=len(row))
    return any(len(told_by_rule(waits_by_rule(yard, row, dealing))) == len(row) for dealing in dealings)


class SearchTest(unittest.TestCase):

    def test_short_rows(self):
        for pick in all_picks(SQUARE):
            for many in range(5):
                for row in permutations(range(many)):
                    self.assertEqual(can_be_dealt(SQUARE, pick, row), some_dealing_works(SQUARE, pick, row))

    def test_longer_rows(self):
        dice = dice_of(60)
        found = []
        for _ in range(150):
            yard = some_yard(dice, 3, 5)
            pick = some_pick(dice, yard)
            row = some_row(dice, 6)
            found.append(can_be_dealt(yard, pick, row))
            self.assertEqual(found[-1], some_dealing_works(yard, pick, row))
        self.assertGreater(min(found.count(True), found.count(False)), 20)


if __name__ == "__main__":
    unittest.main()
