"""The search for any dealing: point [5.1]."""

import unittest
from itertools import permutations, product

from trackworth.errors import BadRow, BadYard, TooMany
from trackworth.falls import falls
from trackworth.forests import worth
from trackworth.plans import plan
from trackworth.solver import completed, some_dealing
from trackworth.yards import all_tracks
from tests.support import (
    BARE, FULL, SQUARE, assert_refused, assert_same, complete, dice_of, some_row, some_yard, yard_of_ring,
)
from tests.test_rows import BAD_ROWS, FALLEN, LONG
from tests.test_waits import TOO_MUCH, moves_lead_out, told_by_rule, waits_by_rule
from tests.test_yards import BAD_YARDS

# Worth 4 with five and with six tracks, and worth 5 with six tracks.
FIVE = (3, 2, ((0, 0), (0, 1), (1, 0), (1, 1), (2, 1)))
SIX = complete(2, 3)
SIX_ROUND = yard_of_ring(6)
# Seven tracks with a ring of four, worth 6 and worth 5.
SEVEN = (4, 4, ((0, 0), (0, 1), (1, 0), (1, 1), (2, 1), (2, 2), (3, 3)))
SEVEN_CLOSE = (3, 3, ((0, 0), (0, 1), (0, 2), (1, 0), (1, 1), (1, 2), (2, 0)))


def works(yard, row, dealing):
    """Whether the dealing has a middle order, by the two cases of [4.2]."""
    return len(told_by_rule(waits_by_rule(yard, row, dealing))) == len(row)


class SomeDealingTest(unittest.TestCase):

    def assert_dealt(self, yard, row):
        """There is a dealing, and it works."""
        found = some_dealing(yard, row)
        self.assertIs(type(found), tuple, (yard, row))
        self.assertEqual(len(found), len(row))
        for t in found:
            self.assertIs(type(t), int)
            self.assertIn(t, range(len(yard[2])))
        self.assertTrue(works(yard, row, found), (yard, row, found))

    def test_within_the_worth_it_is_the_plan(self):
        for yard in (SQUARE, FIVE, SIX, SIX_ROUND, SEVEN, FULL):
            for many in range(min(worth(yard), 8) + 1):
                row = LONG[:many][::-1]
                assert_same(self, some_dealing(yard, row), plan(yard, all_tracks(yard), row))
        assert_same(self, some_dealing(SQUARE, (3, 0, 4, 2, 1)), (0, 1, 0, 1, 2))
        assert_same(self, some_dealing(yard=SQUARE, row=(1, 0)), (0, 1))

    def test_edges(self):
        assert_same(self, some_dealing(BARE, ()), ())
        assert_same(self, some_dealing(BARE, (0,)), None)
        assert_same(self, some_dealing(FULL, ()), ())
        assert_same(self, some_dealing((1, 1, ((0, 0),)), (0, 1)), (0, 0))
        assert_same(self, some_dealing((1, 1, ((0, 0),)), (1, 0)), None)

    def test_rows_of_eight_and_of_nine_wagons(self):
        for yard in (BARE, SQUARE, SIX, SEVEN, FULL):
            assert_refused(self, TooMany, 9, some_dealing, yard, LONG[:9])
            assert_refused(self, TooMany, 9, some_dealing, yard, LONG[:9][::-1])
            assert_refused(self, TooMany, 400, some_dealing, yard, FALLEN)
        assert_same(self, some_dealing(SQUARE, LONG[:8]), (0,) * 8)
        assert_same(self, some_dealing(FULL, LONG[:8][::-1]), LONG[:8])
        assert_same(self, some_dealing(SQUARE, LONG[:8][::-1]), None)
        self.assert_dealt(SIX, (5, 4, 3, 7, 2, 1, 0, 6))

    def test_more_falls_than_tracks(self):
        for yard in (SQUARE, FIVE, SIX, SIX_ROUND, SEVEN, SEVEN_CLOSE):
            many = len(yard[2])
            assert_same(self, some_dealing(yard, LONG[:many + 1][::-1]), None)
            assert_same(self, some_dealing(yard, tuple(range(8))[::-1]), None)
        assert_same(self, some_dealing(SEVEN, (1, 0)), (0, 1))

    def test_more_falls_than_the_worth_but_not_than_tracks(self):
        for yard in (SQUARE, FIVE, SIX, SIX_ROUND):
            for many in range(worth(yard) + 1, len(yard[2]) + 1):
                self.assert_dealt(yard, LONG[:many][::-1])

    def test_yards_of_seven_tracks_are_refused_if_it_would_have_to_search(self):
        assert_same(self, some_dealing(SEVEN, (5, 4, 3, 2, 1, 0)), plan(SEVEN, all_tracks(SEVEN), (5, 4, 3, 2, 1, 0)))
        assert_refused(self, TooMany, 7, some_dealing, SEVEN, (6, 5, 4, 3, 2, 1, 0))
        assert_same(self, some_dealing(SEVEN, (7, 6, 5, 4, 3, 2, 1, 0)), None)
        assert_same(self, some_dealing(SEVEN_CLOSE, (4, 3, 2, 1, 0)) is None, False)
        for row in ((5, 4, 3, 2, 1, 0), (6, 5, 4, 3, 2, 1, 0), (0, 7, 6, 5, 4, 3, 2, 1)):
            assert_refused(self, TooMany, 7, some_dealing, SEVEN_CLOSE, row)
        twelve = complete(3, 4)
        assert_refused(self, TooMany, 12, some_dealing, twelve, (6, 5, 4, 3, 2, 1, 0))
        assert_same(self, some_dealing(twelve, (5, 4, 3, 2, 1, 0)) is None, False)

    def test_all_short_rows_by_all_dealings(self):
        for yard in (SQUARE, (2, 2, ((0, 0), (0, 1), (1, 1))), (2, 2, ((0, 0), (1, 1))), (1, 1, ((0, 0),))):
            for many in range(6):
                for row in permutations(range(many)):
                    dealings = product(range(len(yard[2])), repeat=many)
                    if any(works(yard, row, dealing) for dealing in dealings):
                        self.assert_dealt(yard, row)
                    else:
                        assert_same(self, some_dealing(yard, row), None)

    def test_all_rows_of_four_falls_over_a_ring_of_four(self):
        for row in permutations(range(6)):
            if falls(row) == 4:
                self.assert_dealt(SQUARE, row)

    def test_eight_wagons_over_rings(self):
        dice = dice_of(32)
        for yard in (SQUARE, FIVE, SIX, SIX_ROUND):
            tried = 0
            while tried < 60:
                row = tuple(sorted(range(8), key=lambda wagon: 1.5 * dice.random() - wagon / 8))
                if worth(yard) < falls(row) <= len(yard[2]):
                    self.assert_dealt(yard, row)
                    tried += 1

    def test_the_search_ends_without_a_dealing_if_there_is_none(self):
        # Of rows that are short enough to be asked for, each has a dealing; so the search is asked for a longer one.
        assert_same(self, completed(SQUARE, TOO_MUCH, ()), None)
        for t in range(4):
            assert_same(self, completed(SQUARE, TOO_MUCH, (t,)), None)

    def test_dealings_it_finds_bring_all_wagons_out(self):
        dice = dice_of(33)
        for _ in range(150):
            yard = some_yard(dice, 3, 6)
            row = some_row(dice, 5)
            found = some_dealing(yard, row)
            if found is not None:
                self.assertTrue(moves_lead_out(yard, row, found))


class RefusalTest(unittest.TestCase):

    def test_yards_and_then_rows(self):
        for thing, what in BAD_YARDS:
            assert_refused(self, BadYard, what, some_dealing, thing, None)
        for thing, what in BAD_ROWS:
            for yard in (BARE, SQUARE, SEVEN):
                assert_refused(self, BadRow, what, some_dealing, yard, thing)


if __name__ == "__main__":
    unittest.main()
