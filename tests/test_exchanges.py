"""Exchanges and the number of forests: points [9.3] and [9.5]."""

import unittest
from itertools import combinations

from trackworth.errors import BadNumber, BadPick, BadYard, NotForest, TooMany, Unlike
from trackworth.exchanges import count_forests, swaps
from trackworth.forests import forest, worth
from trackworth.rings import serves
from trackworth.yards import all_tracks
from tests.support import (
    BARE, FULL, SQUARE, all_picks, assert_refused, assert_same, complete, dice_of, some_pick, some_yard, yard_of_ring,
)
from tests.test_prices import WRONG_NUMBERS
from tests.test_rings import SIX_AND_FOUR, TWO_SQUARES, rings_of
from tests.test_webs import BAD_PICKS
from tests.test_yards import BAD_YARDS

EVERY = (0, 1, 2, 3)
# Three first lanes, a ring of four tracks, and a track to the third lane.
TAILED = (3, 2, ((0, 0), (0, 1), (1, 0), (1, 1), (2, 1)))
# Two lots of lanes: a ring of four tracks, and two tracks apart from it.
APART = (4, 4, ((0, 0), (0, 1), (1, 0), (1, 1), (2, 2), (3, 3)))


def swaps_by_rule(yard, one, two):
    """The exchanges of [9.3], from all rings of what stands with the further track."""
    standing = set(one)
    found = []
    for t in sorted(set(two) - set(one)):
        rings = rings_of(yard, tuple(sorted(standing | {t})))
        others = set(rings[0]) if rings else standing
        out = min(others - set(two))
        standing = (standing - {out}) | {t}
        found.append((out, t))
    return tuple(found)


def forests_of(yard):
    """All picks of the yard without a ring."""
    return [pick for pick in all_picks(yard) if not rings_of(yard, pick)]


def trees(a, b):
    """How many greatest forests the yard has in which a and b lanes are all joined."""
    return a ** (b - 1) * b ** (a - 1)


class SwapsTest(unittest.TestCase):

    def assert_leads(self, yard, one, two):
        """The exchanges are those of the rule, and lead from pick to pick without a ring."""
        found = swaps(yard, one, two)
        assert_same(self, found, swaps_by_rule(yard, one, two))
        self.assertEqual([t for _, t in found], sorted(set(two) - set(one)))
        self.assertEqual(sorted(u for u, _ in found), sorted(set(one) - set(two)))
        standing = set(one)
        for out, into in found:
            self.assertIn(out, standing)
            self.assertNotIn(into, standing)
            standing = (standing - {out}) | {into}
            self.assertEqual(rings_of(yard, tuple(sorted(standing))), [])
        self.assertEqual(tuple(sorted(standing)), two)

    def test_the_example(self):
        assert_same(self, swaps(SQUARE, (0, 1), (2, 3)), ((0, 2), (1, 3)))
        assert_same(self, swaps(yard=SQUARE, one=(0, 1), two=(2, 3)), ((0, 2), (1, 3)))

    def test_equal_picks(self):
        for yard in (BARE, SQUARE, TAILED, FULL, SIX_AND_FOUR):
            assert_same(self, swaps(yard, (), ()), ())
            pick = forest(yard, all_tracks(yard))
            assert_same(self, swaps(yard, pick, pick), ())
        assert_same(self, swaps(SQUARE, (3,), (3,)), ())

    def test_a_single_track(self):
        assert_same(self, swaps(SQUARE, (0,), (3,)), ((0, 3),))
        assert_same(self, swaps(SQUARE, (3,), (0,)), ((3, 0),))
        assert_same(self, swaps(SQUARE, (0, 1, 2), (0, 1, 3)), ((2, 3),))
        assert_same(self, swaps(SQUARE, (1, 2, 3), (0, 1, 2)), ((3, 0),))

    def test_a_track_that_closes_a_ring(self):
        # Track 3 closes the ring of the first four tracks: track 4 is not in it and stays as yet.
        yard = (3, 2, ((0, 0), (0, 1), (1, 0), (1, 1), (2, 0), (2, 1)))
        assert_same(self, swaps(yard, (0, 1, 2, 4), (1, 2, 3, 5)), ((0, 3), (4, 5)))
        # The least track of the ring is not the least one that stands.
        yard = (3, 3, ((0, 0), (1, 1), (1, 2), (2, 1), (2, 2)))
        assert_same(self, swaps(yard, (0, 1, 2, 3), (0, 2, 3, 4)), ((1, 4),))
        assert_same(self, swaps(APART, (0, 1, 2, 4), (1, 2, 3, 5)), ((0, 3), (4, 5)))

    def test_a_track_that_closes_no_ring(self):
        assert_same(self, swaps(APART, (0, 1, 4), (1, 2, 5)), ((0, 2), (4, 5)))
        assert_same(self, swaps(APART, (1, 2, 4), (0, 2, 5)), ((1, 0), (4, 5)))

    def test_the_least_track_of_the_second_pick_is_kept(self):
        # Track 0 is in the ring that track 3 closes, but in the second pick, too.
        assert_same(self, swaps(SQUARE, (0, 1, 2), (0, 2, 3)), ((1, 3),))
        assert_same(self, swaps(SQUARE, (0, 1), (0, 3)), ((1, 3),))

    def test_picks_without_a_common_track(self):
        assert_same(self, swaps(TWO_SQUARES, (0, 1, 2), (4, 5, 6)), ((0, 4), (1, 5), (2, 6)))
        for yard in (complete(2, 3), complete(3, 3), complete(2, 4)):
            for one in forests_of(yard)[::3]:
                for two in forests_of(yard):
                    if len(one) == len(two) and not set(one) & set(two):
                        self.assert_leads(yard, one, two)

    def test_all_pairs_of_small_yards(self):
        for yard in (SQUARE, TAILED, APART, complete(2, 3), yard_of_ring(6)):
            picks = forests_of(yard)
            for one in picks:
                for two in picks:
                    if len(one) == len(two):
                        self.assert_leads(yard, one, two)

    def test_drawn_yards(self):
        dice = dice_of(90)
        led = 0
        for _ in range(300):
            yard = complete(3, 4) if dice.randint(0, 1) else some_yard(dice, 5, 12)
            one, two = (forest(yard, some_pick(dice, yard)) for _ in range(2))
            many = min(len(one), len(two))
            one, two = (tuple(sorted(dice.sample(pick, many))) for pick in (one, two))
            self.assert_leads(yard, one, two)
            led += one != two
        self.assertGreater(led, 150)

    def test_great_yards(self):
        mirrored = tuple(sorted(59 - t for t in forest(FULL, all_tracks(FULL))))
        self.assertTrue(serves(FULL, mirrored))
        found = swaps(FULL, forest(FULL, all_tracks(FULL)), mirrored)
        standing = set(forest(FULL, all_tracks(FULL)))
        for out, into in found:
            standing = (standing - {out}) | {into}
            self.assertTrue(serves(FULL, tuple(sorted(standing))))
        self.assertEqual(tuple(sorted(standing)), mirrored)
        for many in range(4, 26, 2):
            yard = yard_of_ring(many)
            tracks = all_tracks(yard)
            assert_same(self, swaps(yard, tracks[1:], tracks[:-1]), ((many - 1, 0),))
            assert_same(self, swaps(yard, tracks[:-1], tracks[1:]), ((0, many - 1),))


class SwapsRefusalTest(unittest.TestCase):

    def test_yards_come_first(self):
        for thing, what in BAD_YARDS:
            assert_refused(self, BadYard, what, swaps, thing, None, None)

    def test_then_the_first_pick_and_the_second_one(self):
        for pick in BAD_PICKS:
            assert_refused(self, BadPick, -1, swaps, SQUARE, pick, None)
            assert_refused(self, BadPick, -1, swaps, SQUARE, pick, EVERY)
            # A pick that is none comes ahead of a pick with a ring.
            assert_refused(self, BadPick, -1, swaps, SQUARE, EVERY, pick)
            assert_refused(self, BadPick, -1, swaps, SQUARE, (0, 1), pick)

    def test_then_rings_of_the_first_pick_and_of_the_second_one(self):
        assert_refused(self, NotForest, 0, swaps, SQUARE, EVERY, EVERY)
        assert_refused(self, NotForest, 0, swaps, SQUARE, EVERY, (0, 1))
        assert_refused(self, NotForest, 1, swaps, SQUARE, (0, 1), EVERY)
        assert_refused(self, NotForest, 1, swaps, SQUARE, (), EVERY)
        assert_refused(self, NotForest, 0, swaps, FULL, all_tracks(FULL), ())

    def test_then_unlike_picks(self):
        assert_refused(self, Unlike, 0, swaps, SQUARE, (0, 1), (2,))
        assert_refused(self, Unlike, 0, swaps, SQUARE, (), (2,))
        assert_refused(self, Unlike, 0, swaps, SQUARE, (0, 1, 2), ())
        assert_refused(self, Unlike, 0, swaps, SQUARE, (0, 1, 2), (0, 1))


class CountForestsTest(unittest.TestCase):

    def test_the_example(self):
        assert_same(self, count_forests(SQUARE, 2), 6)
        assert_same(self, count_forests(SQUARE, 3), 4)
        assert_same(self, count_forests(SQUARE, 4), 0)
        assert_same(self, count_forests(yard=SQUARE, m=1), 4)

    def test_edges(self):
        for yard in (BARE, SQUARE, TAILED, (12, 12, ()), complete(2, 7)):
            assert_same(self, count_forests(yard, 0), 1)
            for m in range(worth(yard) + 1, 61):
                assert_same(self, count_forests(yard, m), 0)
        assert_same(self, count_forests((1, 1, ((0, 0),)), 1), 1)

    def test_greatest_forests_of_lanes_that_are_all_joined(self):
        for a in range(1, 8):
            for b in range(1, 13):
                if a * b <= 14:
                    assert_same(self, count_forests(complete(a, b), a + b - 1), trees(a, b))

    def test_a_ring_alone(self):
        for many in range(4, 16, 2):
            yard = yard_of_ring(many)
            assert_same(self, count_forests(yard, many - 1), many)
            assert_same(self, count_forests(yard, many), 0)

    def test_fourteen_tracks_and_fifteen(self):
        yard = complete(2, 7)
        counted = [len([pick for pick in combinations(range(14), m) if serves(yard, pick)]) for m in range(9)]
        self.assertEqual([count_forests(yard, m) for m in range(10)], counted + [0])
        comb = (12, 12, tuple(sorted([(a, a) for a in range(12)] + [(a, a + 1) for a in range(2)])))
        self.assertEqual(len(comb[2]), 14)
        assert_same(self, count_forests(comb, 14), 1)
        assert_same(self, count_forests(comb, 7), 3432)
        for m in (0, 1, 15, 60):
            assert_refused(self, TooMany, 15, count_forests, complete(3, 5), m)
            assert_refused(self, TooMany, 60, count_forests, FULL, m)

    def test_one_by_one(self):
        dice = dice_of(91)
        yards = [SQUARE, TAILED, APART, complete(2, 3), complete(3, 3), yard_of_ring(6), TWO_SQUARES]
        for yard in yards + [some_yard(dice, 5, 8) for _ in range(60)]:
            sizes = [len(pick) for pick in forests_of(yard)]
            for m in range(len(yard[2]) + 3):
                assert_same(self, count_forests(yard, m), sizes.count(m))

    def test_yards_then_numbers_then_too_many(self):
        for thing, what in BAD_YARDS:
            assert_refused(self, BadYard, what, count_forests, thing, None)
        for m in WRONG_NUMBERS:
            for yard in (BARE, SQUARE, FULL):
                assert_refused(self, BadNumber, m, count_forests, yard, m)


if __name__ == "__main__":
    unittest.main()
