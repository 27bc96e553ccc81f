"""What a track more or less is worth: points [9] and [0.3] (d) and (e)."""

import unittest

from trackworth.badrows import bad_row
from trackworth.errors import BadLane, BadTrack, BadYard
from trackworth.forests import worth
from trackworth.plans import plan
from trackworth.webs import pieces
from trackworth.worths import adds, counts
from trackworth.yards import all_tracks
from tests.search import can_be_dealt
from tests.support import (
    BARE, FULL, SQUARE, assert_refused, assert_same, complete, dice_of, some_yard, yard_of_ring,
)
from tests.test_plans import row_of_falls
from tests.test_rings import SIX_AND_FOUR, rings_of
from tests.test_webs import reached
from tests.test_yards import BAD_YARDS

THREE = (2, 2, ((0, 0), (0, 1), (1, 0)))
WRONG_NUMBERS = (-1, 10 ** 30, True, False, None, "0", "", (), (0,), [0], [])


def with_track(yard, a, b):
    """The yard with one more track."""
    return (yard[0], yard[1], tuple(sorted(yard[2] + ((a, b),))))


def without_track(yard, t):
    """The yard with one track less."""
    return (yard[0], yard[1], yard[2][:t] + yard[2][t + 1:])


def some_yards(seed, many):
    """Ordinary yards, and others."""
    dice = dice_of(seed)
    yards = [SQUARE, THREE, BARE, FULL, SIX_AND_FOUR, complete(3, 4), yard_of_ring(8), (12, 12, ())]
    return yards + [some_yard(dice, dice.choice((2, 3, 5, 12))) for _ in range(many)]


class AddsTest(unittest.TestCase):

    def test_the_example(self):
        assert_same(self, adds(THREE, 1, 1), False)
        assert_same(self, adds((2, 2, ((0, 0), (0, 1))), 1, 1), True)

    def test_edges(self):
        assert_same(self, adds(BARE, 0, 0), True)
        assert_same(self, adds((12, 12, ()), 11, 11), True)
        assert_same(self, adds((1, 1, ((0, 0),)), 0, 0), False)
        assert_same(self, adds((12, 12, ((11, 10), (11, 11))), 10, 11), True)
        assert_same(self, adds(yard=(2, 2, ((0, 0), (1, 1))), a=0, b=1), True)

    def test_lanes_of_both_sorts_are_told_apart(self):
        yard = (3, 3, ((0, 1), (1, 0)))
        raised = [(a, b) for a in range(3) for b in range(3) if adds(yard, a, b)]
        self.assertEqual(raised, [(0, 0), (0, 2), (1, 1), (1, 2), (2, 0), (2, 1), (2, 2)])

    def test_a_track_that_is_there_adds_nothing(self):
        for yard in some_yards(67, 20):
            for a, b in yard[2]:
                assert_same(self, adds(yard, a, b), False)

    def test_sixty_tracks(self):
        # The first five first lanes have twelve tracks each, so a further lane has none.
        self.assertEqual(len(FULL[2]), 60)
        assert_same(self, adds(FULL, 5, 0), True)
        assert_same(self, adds(FULL, 11, 11), True)
        assert_same(self, adds(FULL, 4, 11), False)

    def test_every_pair_of_lanes(self):
        for yard in some_yards(68, 60):
            for a in range(yard[0]):
                for b in range(yard[1]):
                    found = adds(yard, a, b)
                    hang = yard[0] + b in reached(yard, all_tracks(yard), a)
                    assert_same(self, found, not hang)
                    if (a, b) not in yard[2] and len(yard[2]) < 60:
                        more = with_track(yard, a, b)
                        assert_same(self, worth(more) - worth(yard), 1 if found else 0)

    def test_lanes_that_are_not_there(self):
        for wrong in WRONG_NUMBERS + (2,):
            assert_refused(self, BadLane, wrong, adds, (2, 3, ()), wrong, 0)
            assert_refused(self, BadLane, wrong, adds, (2, 3, ()), wrong, 3)
        for wrong in WRONG_NUMBERS + (3,):
            assert_refused(self, BadLane, wrong, adds, (2, 3, ()), 1, wrong)
        assert_same(self, adds((2, 3, ()), 1, 2), True)

    def test_bad_yards_come_first(self):
        for thing, what in BAD_YARDS:
            assert_refused(self, BadYard, what, adds, thing, None, None)


class CountsTest(unittest.TestCase):

    def test_the_example(self):
        assert_same(self, counts(THREE, 2), True)
        assert_same(self, counts(SQUARE, 2), False)
        assert_same(self, counts(yard=THREE, track=0), True)

    def test_edges(self):
        assert_same(self, counts((1, 1, ((0, 0),)), 0), True)
        assert_same(self, counts(FULL, 59), False)
        yard = (3, 3, SQUARE[2] + ((2, 2),))
        self.assertEqual([counts(yard, t) for t in range(5)], [False, False, False, False, True])

    def test_every_track(self):
        for yard in some_yards(69, 60):
            for t in all_tracks(yard):
                assert_same(self, counts(yard, t), worth(without_track(yard, t)) < worth(yard))

    def test_a_track_counts_exactly_if_it_is_in_no_ring(self):
        dice = dice_of(70)
        for _ in range(120):
            yard = some_yard(dice, 4, 11)
            ringed = {t for way in rings_of(yard, all_tracks(yard)) for t in way}
            for t in all_tracks(yard):
                assert_same(self, counts(yard, t), t not in ringed)

    def test_tracks_that_are_not_there(self):
        for wrong in WRONG_NUMBERS + (4,):
            assert_refused(self, BadTrack, wrong, counts, SQUARE, wrong)
        assert_refused(self, BadTrack, 0, counts, BARE, 0)
        assert_refused(self, BadTrack, 60, counts, FULL, 60)

    def test_bad_yards_come_first(self):
        for thing, what in BAD_YARDS:
            assert_refused(self, BadYard, what, counts, thing, None)


class WorthTest(unittest.TestCase):

    def test_all_joined_lanes(self):
        for firsts in range(1, 6):
            for seconds in range(1, 13):
                self.assertEqual(worth(complete(firsts, seconds)), firsts + seconds - 1)

    def test_rows_with_as_many_falls_as_the_worth_are_sorted(self):
        for yard in some_yards(71, 40):
            if worth(yard) > 0:
                row = row_of_falls(60, worth(yard))
                self.assertIsNotNone(plan(yard, all_tracks(yard), row))

    def test_a_track_in_a_ring_is_worth_nothing(self):
        # The worth is 3, and of the rows with 4 falls there is one that no dealing over the four tracks sorts.
        self.assertEqual(worth(SQUARE), 3)
        self.assertEqual([counts(SQUARE, t) for t in range(4)], [False] * 4)
        self.assertFalse(can_be_dealt(SQUARE, all_tracks(SQUARE), bad_row(SQUARE, all_tracks(SQUARE))))

    def test_lanes_that_hang_together_are_in_one_piece(self):
        for yard in some_yards(72, 20):
            lots = pieces(yard, all_tracks(yard))
            for a in range(yard[0]):
                for b in range(yard[1]):
                    together = any(a in lot and yard[0] + b in lot for lot in lots)
                    assert_same(self, adds(yard, a, b), not together)


if __name__ == "__main__":
    unittest.main()
