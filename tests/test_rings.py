"""Rings of tracks: points [2.2], [2.3] and [2.5]."""

import unittest
from itertools import permutations

from trackworth.errors import BadPick, BadYard
from trackworth.rings import ring, ring_right, serves
from trackworth.yards import all_tracks, mirror_track, mirrored
from tests.support import (
    BARE, FULL, SQUARE, all_picks, assert_judges, assert_refused, assert_same, complete, dice_of, some_pick, some_yard,
    yard_of_ring,
)
from tests.test_webs import BAD_PICKS
from tests.test_yards import BAD_YARDS

# Two rings of four tracks, lanes 0 and 1 and lanes 2 and 3 of each sort, and nothing between them.
TWO_SQUARES = (4, 4, ((0, 0), (0, 1), (1, 0), (1, 1), (2, 2), (2, 3), (3, 2), (3, 3)))
# A ring of six tracks over the first three lanes of each sort, and one of four behind it.
SIX_AND_FOUR = (5, 5, ((0, 0), (0, 1), (1, 1), (1, 2), (2, 0), (2, 2), (3, 3), (3, 4), (4, 3), (4, 4)))


def rings_of(yard, pick):
    """All rings of the pick, in all their ways, by walking from lane to lane as [2.2] describes it."""
    pairs = yard[2]
    found = []

    def walk(way, firsts, seconds):
        first, second = pairs[way[-1]]
        if len(way) % 2 == 0:
            if len(way) >= 4 and second == pairs[way[0]][1]:
                found.append(tuple(way))
            if second in seconds:
                return
            for t in pick:
                if pairs[t][1] == second and t != way[-1] and pairs[t][0] not in firsts:
                    walk(way + [t], firsts | {pairs[t][0]}, seconds | {second})
        else:
            for t in pick:
                if pairs[t][0] == first and t != way[-1] and pairs[t][1] not in seconds:
                    walk(way + [t], firsts, seconds)

    for t in pick:
        walk([t], {pairs[t][0]}, set())
    return found


def least_ring(yard, pick):
    """What [2.3] asks ring for, from all rings."""
    found = rings_of(yard, pick)
    return min(found, key=lambda way: (len(way), way)) if found else None


class RingTest(unittest.TestCase):

    def test_the_example(self):
        assert_same(self, ring(SQUARE, (0, 1, 2, 3)), (0, 1, 3, 2))
        assert_same(self, serves(SQUARE, (1, 2, 3)), True)
        assert_same(self, serves(SQUARE, (0, 1, 2, 3)), False)

    def test_no_ring(self):
        for yard, pick in ((SQUARE, ()), (SQUARE, (0, 1, 2)), (BARE, ()), (FULL, ()), (FULL, (0, 59))):
            assert_same(self, ring(yard, pick), None)
            assert_same(self, serves(yard, pick), True)

    def test_rings_of_all_lengths(self):
        for many in range(4, 26, 2):
            yard = yard_of_ring(many)
            found = ring(yard, all_tracks(yard))
            self.assertEqual(len(found), many)
            assert_same(self, found, least_ring(yard, all_tracks(yard)))
            assert_same(self, serves(yard, all_tracks(yard)), False)
            for t in all_tracks(yard):
                rest = tuple(u for u in all_tracks(yard) if u != t)
                assert_same(self, ring(yard, rest), None)
                assert_same(self, serves(yard, rest), True)

    def test_the_least_of_equally_long_rings(self):
        assert_same(self, ring(TWO_SQUARES, all_tracks(TWO_SQUARES)), (0, 1, 3, 2))
        assert_same(self, ring(TWO_SQUARES, (1, 2, 3, 4, 5, 6, 7)), (4, 5, 7, 6))
        yard = complete(3, 3)
        assert_same(self, ring(yard, all_tracks(yard)), (0, 1, 4, 3))
        assert_same(self, ring(yard, (0, 2, 3, 4, 5, 6, 8)), (0, 2, 5, 3))
        assert_same(self, ring(FULL, all_tracks(FULL)), (0, 1, 13, 12))

    def test_the_shorter_ring_comes_before_the_lesser_one(self):
        assert_same(self, ring(SIX_AND_FOUR, all_tracks(SIX_AND_FOUR)), (6, 7, 9, 8))
        assert_same(self, ring(SIX_AND_FOUR, (0, 1, 2, 3, 4, 5)), (0, 1, 2, 3, 5, 4))

    def test_a_ring_is_the_least_of_all(self):
        dice = dice_of(3)
        yards = [complete(2, 3), complete(3, 2)]
        cases = [(yard, pick) for yard in yards for pick in all_picks(yard)]
        for _ in range(400):
            yard = some_yard(dice, 5, 14)
            cases.append((yard, some_pick(dice, yard)))
            cases.append((yard, all_tracks(yard)))
        for yard, pick in cases:
            wanted = least_ring(yard, pick)
            assert_same(self, ring(yard, pick), wanted)
            assert_same(self, serves(yard, pick), wanted is None)

    def test_arguments_by_name(self):
        assert_same(self, ring(yard=SQUARE, pick=(0, 1, 2, 3)), (0, 1, 3, 2))
        assert_same(self, serves(yard=SQUARE, pick=()), True)
        assert_same(self, ring_right(yard=SQUARE, pick=(0, 1, 2, 3), thing=(0, 1, 3, 2)), True)

    def test_bad_yards_and_picks(self):
        for function in (ring, serves):
            for thing, what in BAD_YARDS:
                assert_refused(self, BadYard, what, function, thing, None)
            for pick in BAD_PICKS:
                assert_refused(self, BadPick, -1, function, SQUARE, pick)


class RingRightTest(unittest.TestCase):

    def test_the_example(self):
        assert_same(self, ring_right(SQUARE, (0, 1, 2, 3), (3, 2, 0, 1)), True)
        assert_same(self, ring_right(SQUARE, (0, 1, 2, 3), (0, 2, 3, 1)), False)

    def test_all_ways_and_no_others_of_four_tracks(self):
        right = [way for way in permutations(range(4)) if ring_right(SQUARE, (0, 1, 2, 3), way)]
        self.assertEqual(right, [(0, 1, 3, 2), (1, 0, 2, 3), (2, 3, 1, 0), (3, 2, 0, 1)])

    def test_all_rings_are_right_and_changed_ones_wrong(self):
        dice = dice_of(4)
        for _ in range(60):
            yard = some_yard(dice, 4, 11)
            pick = some_pick(dice, yard)
            right = set(rings_of(yard, pick))
            for way in right:
                assert_same(self, ring_right(yard, pick, way), True)
                for at in range(len(way)):
                    for t in range(-1, len(yard[2]) + 1):
                        changed = way[:at] + (t,) + way[at + 1:]
                        assert_same(self, ring_right(yard, pick, changed), changed in right)
                    assert_same(self, ring_right(yard, pick, way[:at] + way[at + 1:]), False)
                    assert_same(self, ring_right(yard, pick, way[:at] + way[at:at + 1] + way[at:]), False)

    def test_all_tuples_of_few_tracks(self):
        yard = (2, 3, ((0, 0), (0, 1), (0, 2), (1, 0), (1, 1), (1, 2)))
        pick = (0, 1, 3, 4, 5)
        right = set(rings_of(yard, pick))
        for many in range(1, 7):
            for way in permutations(range(6), many):
                assert_same(self, ring_right(yard, pick, way), way in right)

    def test_longer_rings_than_needed(self):
        yard = complete(3, 3)
        assert_same(self, ring_right(yard, all_tracks(yard), (0, 1, 4, 5, 8, 6)), True)
        assert_same(self, ring_right(yard, all_tracks(yard), (6, 8, 5, 4, 1, 0)), True)
        assert_same(self, ring_right(yard, all_tracks(yard), (1, 4, 5, 8, 6, 0)), False)
        assert_same(self, ring_right(yard, all_tracks(yard), (8, 6, 0, 1, 4, 5)), True)

    def test_long_rings(self):
        for many in range(4, 26, 2):
            yard = yard_of_ring(many)
            pick = all_tracks(yard)
            way = ring(yard, pick)
            assert_same(self, ring_right(yard, pick, way), True)
            assert_same(self, ring_right(yard, pick, way[2:] + way[:2]), True)
            assert_same(self, ring_right(yard, pick, way[1:] + way[:1]), False)
            assert_same(self, ring_right(yard, pick, way[::-1]), True)
            assert_same(self, ring_right(yard, pick, way[:1] + way[:0:-1]), False)
            ways = [way[at:] + way[:at] for at in range(0, many, 2)]
            ways += [turned[::-1] for turned in ways]
            self.assertEqual(len(set(ways)), many)
            for turned in ways:
                assert_same(self, ring_right(yard, pick, turned), True)

    def test_a_lane_comes_only_once(self):
        eight = complete(3, 2)
        for way in ((0, 1, 3, 2, 0, 1, 3, 2), (0, 1, 3, 2, 0, 1, 5, 4), (0, 1, 3, 3), (0, 0, 0, 0), (0, 1, 1, 0)):
            assert_same(self, ring_right(eight, all_tracks(eight), way), False)
        # Two squares that meet in one lane: each step fits, but the lane comes twice.
        bow = (3, 4, ((0, 0), (0, 1), (0, 2), (0, 3), (1, 0), (1, 1), (2, 2), (2, 3)))
        assert_same(self, ring_right(bow, all_tracks(bow), (4, 5, 1, 0)), True)
        assert_same(self, ring_right(bow, all_tracks(bow), (5, 4, 0, 2, 6, 7, 3, 1)), False)
        flipped = mirrored(bow)
        way = tuple(mirror_track(bow, t) for t in (4, 0, 2, 6, 7, 3, 1, 5))
        assert_same(self, ring_right(flipped, all_tracks(flipped), way), False)

    def test_two_tracks_are_no_ring(self):
        for way in ((), (0,), (0, 1), (0, 0), (0, 1, 3)):
            assert_same(self, ring_right(SQUARE, (0, 1, 2, 3), way), False)

    def test_only_tracks_of_the_pick(self):
        assert_same(self, ring_right(TWO_SQUARES, (0, 1, 2, 3), (0, 1, 3, 2)), True)
        assert_same(self, ring_right(TWO_SQUARES, (0, 1, 2, 3), (4, 5, 7, 6)), False)
        assert_same(self, ring_right(TWO_SQUARES, (0, 1, 2, 4, 5, 6, 7), (0, 1, 3, 2)), False)
        assert_same(self, ring_right(SQUARE, (), (0, 1, 3, 2)), False)

    def test_wrong_forms(self):
        for thing in ([0, 1, 3, 2], (False, True, 3, 2), (0, True, 3, 2), (0, 1, 3, "2"), (0, 1, 3, None),
                      (0, 1, 3, (2,)), "0132", None, True, 0, (-4, 1, 3, 2), (0, 1, 7, 2), (0, -3, 3, 2)):
            assert_same(self, ring_right(SQUARE, (0, 1, 2, 3), thing), False)

    def test_wrong_yards_and_picks_give_false(self):
        for thing, _ in BAD_YARDS:
            assert_same(self, ring_right(thing, (0, 1, 2, 3), (0, 1, 3, 2)), False)
        for pick in BAD_PICKS:
            assert_same(self, ring_right(SQUARE, pick, (0, 1, 3, 2)), False)
        assert_same(self, ring_right(SQUARE, (3, 2, 1, 0), (0, 1, 3, 2)), False)
        assert_same(self, ring_right(SQUARE, [0, 1, 2, 3], (0, 1, 3, 2)), False)

    def test_it_only_judges(self):
        assert_judges(self, ring_right, [(SQUARE, (0, 1, 2, 3), (0, 1, 3, 2)), (BARE, (), ())])


if __name__ == "__main__":
    unittest.main()
