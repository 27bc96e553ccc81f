"""Forests and worth: points [2.4] and [2.5]."""

import unittest
from itertools import combinations

from trackworth.errors import BadPick, BadYard
from trackworth.forests import forest, worth
from trackworth.rings import serves
from trackworth.webs import rank
from trackworth.yards import all_tracks
from tests.support import (
    BARE, FULL, SQUARE, all_picks, assert_refused, assert_same, complete, dice_of, some_pick, some_yard, yard_of_ring,
)
from tests.test_rings import rings_of
from tests.test_webs import BAD_PICKS
from tests.test_yards import BAD_YARDS


def forest_by_rings(yard, pick):
    """The tracks taken one by one, as long as they and those before are without a ring."""
    taken = ()
    for t in pick:
        if not rings_of(yard, taken + (t,)):
            taken += (t,)
    return taken


class ForestTest(unittest.TestCase):

    def test_the_example(self):
        assert_same(self, forest(SQUARE, (0, 1, 2, 3)), (0, 1, 2))

    def test_edges(self):
        assert_same(self, forest(BARE, ()), ())
        assert_same(self, forest(FULL, ()), ())
        assert_same(self, forest((1, 1, ((0, 0),)), (0,)), (0,))
        assert_same(self, forest(FULL, all_tracks(FULL)), tuple(range(13)) + (24, 36, 48))

    def test_a_pick_without_a_ring_stays(self):
        assert_same(self, forest(SQUARE, (1, 2, 3)), (1, 2, 3))
        assert_same(self, forest(SQUARE, (0, 3)), (0, 3))

    def test_of_a_ring_the_last_track_is_left_out(self):
        for many in range(4, 26, 2):
            yard = yard_of_ring(many)
            assert_same(self, forest(yard, all_tracks(yard)), tuple(range(many - 1)))

    def test_a_track_that_closes_no_ring_is_taken_behind_one_that_does(self):
        yard = (3, 2, ((0, 0), (0, 1), (1, 0), (1, 1), (2, 1)))
        assert_same(self, forest(yard, all_tracks(yard)), (0, 1, 2, 4))
        assert_same(self, forest(yard, (0, 1, 3, 4)), (0, 1, 3, 4))

    def test_forests_by_the_rule(self):
        dice = dice_of(5)
        cases = [(complete(2, 3), pick) for pick in all_picks(complete(2, 3))]
        for _ in range(150):
            yard = some_yard(dice, 4, 10)
            cases.append((yard, some_pick(dice, yard)))
        for yard, pick in cases:
            found = forest(yard, pick)
            assert_same(self, found, forest_by_rings(yard, pick))
            self.assertEqual(len(found), rank(yard, pick))
            assert_same(self, serves(yard, found), True)

    def test_every_greatest_part_without_a_ring_has_as_many_tracks(self):
        for yard in (SQUARE, complete(2, 3), complete(3, 2)):
            for pick in all_picks(yard):
                sizes = [len(part) for many in range(len(pick) + 1) for part in combinations(pick, many)
                         if serves(yard, part)]
                self.assertEqual(max(sizes), len(forest(yard, pick)))

    def test_arguments_by_name(self):
        assert_same(self, forest(yard=SQUARE, pick=(0,)), (0,))
        assert_same(self, worth(yard=SQUARE), 3)

    def test_bad_yards_and_picks(self):
        for thing, what in BAD_YARDS:
            assert_refused(self, BadYard, what, forest, thing, None)
            assert_refused(self, BadYard, what, worth, thing)
        for pick in BAD_PICKS:
            assert_refused(self, BadPick, -1, forest, SQUARE, pick)


class WorthTest(unittest.TestCase):

    def test_the_example(self):
        assert_same(self, worth(SQUARE), 3)

    def test_edges(self):
        assert_same(self, worth(BARE), 0)
        assert_same(self, worth((12, 12, ())), 0)
        assert_same(self, worth((1, 1, ((0, 0),))), 1)
        assert_same(self, worth(FULL), 16)
        assert_same(self, worth((12, 12, ((0, 0), (11, 11)))), 2)

    def test_the_rank_of_all_tracks(self):
        dice = dice_of(6)
        for _ in range(100):
            yard = some_yard(dice, 12)
            assert_same(self, worth(yard), len(forest(yard, all_tracks(yard))))


if __name__ == "__main__":
    unittest.main()
