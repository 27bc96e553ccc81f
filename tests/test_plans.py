"""Plans: points [5] and [0.3] (b)."""

import unittest
from itertools import permutations

from trackworth.dealings import fallen, is_dealing
from trackworth.errors import BadPick, BadRow, BadYard
from trackworth.falls import falls
from trackworth.kernel import order_right
from trackworth.plans import plan
from trackworth.waits import order
from trackworth.webs import rank
from trackworth.yards import all_tracks
from tests.support import (
    BARE, FULL, SQUARE, all_picks, assert_refused, assert_same, complete, dice_of, some_pick, some_row, some_yard,
    yard_of_ring,
)
from tests.test_falls import layers_by_rule
from tests.test_forests import forest_by_rings
from tests.test_rows import BAD_ROWS, FALLEN, LONG
from tests.test_webs import BAD_PICKS
from tests.test_yards import BAD_YARDS

EVERY = (0, 1, 2, 3)


def row_of_falls(many, falls_wanted):
    """A row with so many falls, whose wagons come in turn from so many rising lots."""
    lots = [list(range(lot * many // falls_wanted, (lot + 1) * many // falls_wanted)) for lot in range(falls_wanted)]
    row = []
    while any(lots):
        for lot in lots[::-1]:
            if lot:
                row.append(lot.pop(0))
    return tuple(row)


def plan_by_rule(yard, pick, row):
    """The track of each layer of the row, from all rings and all lots of falling wagons."""
    heights = layers_by_rule(row)
    tracks = forest_by_rings(yard, pick)
    if max(heights, default=-1) >= len(tracks):
        return None
    return tuple(tracks[layer] for layer in heights)


class PlanTest(unittest.TestCase):

    def test_ordinary_rows(self):
        assert_same(self, plan(SQUARE, EVERY, (3, 0, 4, 2, 1)), (0, 1, 0, 1, 2))
        assert_same(self, plan(SQUARE, (1, 2, 3), (3, 0, 4, 2, 1)), (1, 2, 1, 2, 3))
        assert_same(self, plan(SQUARE, (0, 3), (1, 0)), (0, 3))
        assert_same(self, plan(SQUARE, (2, 3), (0, 1)), (2, 2))
        assert_same(self, plan(yard=SQUARE, pick=EVERY, row=(1, 0)), (0, 1))

    def test_the_row_without_wagons(self):
        for yard, pick in ((SQUARE, EVERY), (SQUARE, ()), (BARE, ()), (FULL, all_tracks(FULL))):
            assert_same(self, plan(yard, pick, ()), ())

    def test_no_tracks(self):
        assert_same(self, plan(BARE, (), (0,)), None)
        assert_same(self, plan(SQUARE, (), (0,)), None)
        assert_same(self, plan(SQUARE, (), LONG), None)

    def test_as_many_falls_as_the_rank_and_one_more(self):
        assert_same(self, plan(SQUARE, EVERY, (2, 1, 0)), (0, 1, 2))
        assert_same(self, plan(SQUARE, EVERY, (3, 2, 1, 0)), None)
        assert_same(self, plan(SQUARE, (0, 2), (2, 0, 1)), (0, 2, 2))
        assert_same(self, plan(SQUARE, (0, 2), (2, 1, 0)), None)
        for many in range(4, 26, 2):
            yard = yard_of_ring(many)
            assert_same(self, plan(yard, all_tracks(yard), LONG[:many - 1][::-1]), LONG[:many - 1])
            assert_same(self, plan(yard, all_tracks(yard), LONG[:many][::-1]), None)

    def test_only_tracks_of_the_forest(self):
        yard = (3, 2, ((0, 0), (0, 1), (1, 0), (1, 1), (2, 1)))
        assert_same(self, plan(yard, (0, 1, 2, 3, 4), (3, 2, 1, 0)), (0, 1, 2, 4))
        assert_same(self, plan(yard, (0, 1, 3, 4), (3, 2, 1, 0)), (0, 1, 3, 4))

    def test_all_short_rows_and_all_picks(self):
        for yard in (SQUARE, (3, 2, ((0, 0), (0, 1), (1, 0), (1, 1), (2, 1)))):
            for pick in all_picks(yard):
                for many in range(6):
                    for row in permutations(range(many)):
                        found = plan(yard, pick, row)
                        assert_same(self, found, plan_by_rule(yard, pick, row))
                        assert_same(self, found is None, falls(row) > rank(yard, pick))
                        if found is not None:
                            self.assertLessEqual(set(found), set(pick))
                            assert_same(self, fallen(yard, row, found), None)
                            assert_same(self, order_right(yard, row, found, order(yard, row, found)), True)

    def test_longer_rows(self):
        dice = dice_of(31)
        planned = 0
        for _ in range(300):
            yard = some_yard(dice, 5, 12)
            pick = some_pick(dice, yard)
            row = some_row(dice, 14)
            found = plan(yard, pick, row)
            assert_same(self, found, plan_by_rule(yard, pick, row))
            if found is not None:
                planned += 1
                assert_same(self, is_dealing(yard, row, found), True)
                assert_same(self, order(yard, row, found) is not None, True)
        self.assertGreater(planned, 60)

    def test_four_hundred_wagons(self):
        worth = rank(FULL, all_tracks(FULL))
        row = row_of_falls(400, worth)
        self.assertEqual(falls(row), worth)
        found = plan(FULL, all_tracks(FULL), row)
        assert_same(self, order(FULL, row, found) is not None, True)
        self.assertEqual(len(set(found)), worth)
        assert_same(self, plan(FULL, all_tracks(FULL), row_of_falls(400, worth + 1)), None)
        assert_same(self, plan(FULL, all_tracks(FULL), FALLEN), None)
        assert_same(self, plan(SQUARE, (2,), LONG), (2,) * 400)

    def test_all_joined_lanes_sort_the_rows_of_the_overview(self):
        for firsts in range(1, 6):
            for seconds in range(1, 6):
                yard = complete(firsts, seconds)
                worth = firsts + seconds - 1
                row = row_of_falls(40, worth)
                found = plan(yard, all_tracks(yard), row)
                assert_same(self, order(yard, row, found) is not None, True)
                assert_same(self, plan(yard, all_tracks(yard), row_of_falls(40, worth + 1)), None)


class RefusalTest(unittest.TestCase):

    def test_yards_come_first(self):
        for thing, what in BAD_YARDS:
            assert_refused(self, BadYard, what, plan, thing, None, None)

    def test_then_picks(self):
        for pick in BAD_PICKS:
            assert_refused(self, BadPick, -1, plan, SQUARE, pick, None)
            assert_refused(self, BadPick, -1, plan, SQUARE, pick, (0,))

    def test_then_rows(self):
        for thing, what in BAD_ROWS:
            for pick in ((), EVERY):
                assert_refused(self, BadRow, what, plan, SQUARE, pick, thing)
        assert_refused(self, BadRow, -1, plan, FULL, all_tracks(FULL), LONG + (400,))


if __name__ == "__main__":
    unittest.main()
