"""Shut lanes and lost tracks: point [9.4]."""

import unittest
from itertools import combinations

from trackworth.errors import BadLane, BadNumber, BadPick, BadYard
from trackworth.forests import worth
from trackworth.shut import fragile, shut
from trackworth.yards import all_tracks
from tests.support import (
    BARE, FULL, LISTS, SQUARE, all_picks, assert_refused, assert_same, complete, dice_of, nest, some_pick, some_yard,
    yard_of_ring,
)
from tests.test_prices import WRONG_NUMBERS
from tests.test_rings import SIX_AND_FOUR, TWO_SQUARES
from tests.test_webs import BAD_PICKS, pieces_by_reach
from tests.test_yards import BAD_YARDS

EVERY = (0, 1, 2, 3)
TAILED = (3, 2, ((0, 0), (0, 1), (1, 0), (1, 1), (2, 1)))

# No lanes of the yard SQUARE, which has four of them, each with what shut says of it.
BAD_LANES = (
    (None, -1), (True, -1), (False, -1), (0, -1), (3, -1), ("", -1), ("01", -1), ([], -1), ([0], -1),
    ((4,), 4), ((0, 4), 4), ((-1,), -1), ((0, -1), -1), ((0, 0), 0), ((1, 0), 0), ((0, 2, 1), 1), ((3, 2, 1), 2),
    ((True,), True), ((False,), False), ((0, True), True), ((False, 1), False), ((0, 1, 2, 3, 4), 4), ((5, -1), 5),
    ((None,), None), ((0, None), None), (("0",), "0"), (((0,),), (0,)), (((),), ()), ((10 ** 30,), 10 ** 30),
    ((0, 1, 1, 9), 1), ((2, 2, None), 2), (nest(20), nest(19)),
)


def worth_by_reach(yard, pick):
    """The rank of the pick, from the lanes that can be reached."""
    lots = pieces_by_reach(yard, pick)
    return sum(len(lot) for lot in lots) - len(lots)


def fragile_by_rule(yard, m, f):
    """The first pick of f tracks, or of all if there are fewer, without which the rank is below m."""
    tracks = all_tracks(yard)
    for lost in sorted(combinations(tracks, min(f, len(tracks)))):
        if worth_by_reach(yard, tuple(t for t in tracks if t not in lost)) < m:
            return lost
    return None


class ShutTest(unittest.TestCase):

    def test_the_example(self):
        assert_same(self, shut(SQUARE, (0,), EVERY), (2, 3))
        assert_same(self, shut(SQUARE, (3,), (0, 1, 3)), (0,))
        assert_same(self, shut(yard=SQUARE, lanes=(3,), pick=(0, 1, 3)), (0,))

    def test_each_lane(self):
        for lane, left in enumerate(((2, 3), (0, 1), (1, 3), (0, 2))):
            assert_same(self, shut(SQUARE, (lane,), EVERY), left)

    def test_no_lane_and_all_lanes(self):
        for yard in (BARE, SQUARE, FULL, TAILED, SIX_AND_FOUR):
            tracks = all_tracks(yard)
            assert_same(self, shut(yard, (), tracks), tracks)
            assert_same(self, shut(yard, tuple(range(yard[0] + yard[1])), tracks), ())
            assert_same(self, shut(yard, (), ()), ())
            assert_same(self, shut(yard, tuple(range(yard[0])), tracks), ())
            assert_same(self, shut(yard, tuple(range(yard[0], yard[0] + yard[1])), tracks), ())

    def test_lanes_of_both_sorts_are_numbered_together(self):
        yard = (2, 3, ((0, 0), (0, 2), (1, 0), (1, 1)))
        assert_same(self, shut(yard, (2,), EVERY), (1, 3))
        assert_same(self, shut(yard, (4,), EVERY), (0, 2, 3))
        assert_same(self, shut(yard, (1, 4), EVERY), (0,))
        assert_same(self, shut(yard, (3,), (1, 2)), (1, 2))

    def test_all_lanes_and_picks_of_small_yards(self):
        for yard in (SQUARE, TAILED, (2, 3, ((0, 0), (0, 2), (1, 0), (1, 1)))):
            many = yard[0] + yard[1]
            for lanes in [lot for size in range(many + 1) for lot in combinations(range(many), size)]:
                for pick in all_picks(yard):
                    ends = {t: {yard[2][t][0], yard[0] + yard[2][t][1]} for t in pick}
                    left = tuple(t for t in pick if not ends[t] & set(lanes))
                    assert_same(self, shut(yard, lanes, pick), left)

    def test_great_yards(self):
        assert_same(self, shut(FULL, (0, 1, 2, 3), all_tracks(FULL)), tuple(range(48, 60)))
        assert_same(self, shut(FULL, (0, 1, 2, 3, 23), all_tracks(FULL)), tuple(range(48, 59)))
        assert_refused(self, BadLane, 24, shut, FULL, (24,), all_tracks(FULL))

    def test_yards_come_first(self):
        for thing, what in BAD_YARDS:
            assert_refused(self, BadYard, what, shut, thing, None, None)

    def test_then_lanes(self):
        for lanes, what in BAD_LANES:
            assert_refused(self, BadLane, what, shut, SQUARE, lanes, None)
            assert_refused(self, BadLane, what, shut, SQUARE, lanes, EVERY)
        for lanes in LISTS:
            assert_refused(self, BadLane, -1, shut, SQUARE, lanes, EVERY)
        assert_refused(self, BadLane, 2, shut, BARE, (0, 1, 2), ())

    def test_then_picks(self):
        for pick in BAD_PICKS:
            for lanes in ((), (0,), (0, 1, 2, 3)):
                assert_refused(self, BadPick, -1, shut, SQUARE, lanes, pick)


class FragileTest(unittest.TestCase):

    def test_the_example(self):
        assert_same(self, fragile(SQUARE, 3, 1), None)
        assert_same(self, fragile(SQUARE, 3, 2), (0, 1))
        assert_same(self, fragile(SQUARE, 4, 0), ())
        assert_same(self, fragile(yard=SQUARE, m=3, f=2), (0, 1))

    def test_no_track_is_lost(self):
        for yard in (BARE, SQUARE, TAILED, FULL, SIX_AND_FOUR):
            for m in range(61):
                assert_same(self, fragile(yard, m, 0), () if worth(yard) < m else None)

    def test_nothing_is_worth_less_than_nothing(self):
        for yard in (BARE, SQUARE, (1, 1, ((0, 0),)), FULL):
            for f in range(3):
                assert_same(self, fragile(yard, 0, f), None)

    def test_fewer_tracks_than_are_lost(self):
        for f in range(3):
            assert_same(self, fragile(BARE, 1, f), ())
            assert_same(self, fragile((12, 12, ()), 60, f), ())
        assert_same(self, fragile((1, 1, ((0, 0),)), 1, 1), (0,))
        assert_same(self, fragile((1, 1, ((0, 0),)), 1, 2), (0,))
        assert_same(self, fragile((1, 1, ((0, 0),)), 2, 2), (0,))
        assert_same(self, fragile((1, 2, ((0, 0), (0, 1))), 1, 2), (0, 1))
        assert_same(self, fragile((1, 2, ((0, 0), (0, 1))), 2, 2), (0, 1))

    def test_the_track_that_is_in_no_ring(self):
        assert_same(self, fragile(TAILED, 4, 1), (4,))
        assert_same(self, fragile(TAILED, 4, 2), (0, 1))
        assert_same(self, fragile(TAILED, 3, 1), None)
        assert_same(self, fragile(TAILED, 3, 2), None)
        yard = (3, 3, TAILED[2] + ((2, 2),))
        assert_same(self, fragile(yard, 4, 2), (4, 5))
        assert_same(self, fragile(yard, 5, 2), (0, 1))
        assert_same(self, fragile(yard, 5, 1), (4,))
        assert_same(self, fragile(TAILED, 5, 1), (0,))

    def test_two_tracks_that_are_in_one_ring(self):
        assert_same(self, fragile(TWO_SQUARES, 6, 1), None)
        assert_same(self, fragile(TWO_SQUARES, 6, 2), (0, 1))
        assert_same(self, fragile(TWO_SQUARES, 5, 2), None)
        # The last track is the only one of its lane.
        yard = (3, 4, complete(3, 3)[2] + ((2, 3),))
        assert_same(self, fragile(yard, 6, 1), (9,))
        assert_same(self, fragile(yard, 5, 1), None)

    def test_many_small_yards(self):
        dice = dice_of(92)
        found = []
        yards = [SQUARE, TAILED, complete(2, 3), complete(3, 3), yard_of_ring(6), TWO_SQUARES, BARE]
        for yard in yards + [some_yard(dice, 4, 9) for _ in range(80)]:
            for m in list(range(worth(yard) + 3)) + [60]:
                for f in range(3):
                    wanted = fragile_by_rule(yard, m, f)
                    assert_same(self, fragile(yard, m, f), wanted)
                    found.append(wanted is None)
        self.assertGreater(found.count(True), 100)
        self.assertGreater(found.count(False), 100)

    def test_sixty_tracks(self):
        assert_same(self, fragile(FULL, 16, 1), None)
        assert_same(self, fragile(FULL, 16, 2), None)
        assert_same(self, fragile(FULL, 17, 2), (0, 1))
        yard = (12, 12, tuple(sorted(complete(5, 11)[2] + ((11, 11), (10, 11), (9, 11)))))
        assert_same(self, fragile(yard, worth(yard), 2), (0, 55))
        assert_same(self, fragile(yard, worth(yard) - 1, 2), (55, 56))

    def test_yards_come_first(self):
        for thing, what in BAD_YARDS:
            assert_refused(self, BadYard, what, fragile, thing, None, None)

    def test_then_the_first_number_and_the_second_one(self):
        for wrong in WRONG_NUMBERS:
            assert_refused(self, BadNumber, wrong, fragile, SQUARE, wrong, None)
            assert_refused(self, BadNumber, wrong, fragile, SQUARE, wrong, 1)
            assert_refused(self, BadNumber, wrong, fragile, BARE, 60, wrong)
        for wrong in (3, 60):
            assert_refused(self, BadNumber, wrong, fragile, SQUARE, 3, wrong)
            assert_refused(self, BadNumber, wrong, fragile, BARE, 0, wrong)
        assert_refused(self, BadNumber, 61, fragile, SQUARE, 61, 3)

    def test_picks_that_are_lost(self):
        dice = dice_of(93)
        for _ in range(100):
            yard = some_yard(dice, 12)
            left = some_pick(dice, yard)
            lanes = tuple(sorted(dice.sample(range(yard[0] + yard[1]), dice.randint(0, 2))))
            kept = shut(yard, lanes, left)
            for t in left:
                self.assertEqual(t in kept, yard[2][t][0] not in lanes and yard[0] + yard[2][t][1] not in lanes)
            assert_same(self, shut(yard, lanes, kept), kept)


if __name__ == "__main__":
    unittest.main()
