"""Yards, picks and mirrored yards: points [1] to [1.4]."""

import unittest

from trackworth.errors import BadTrack, BadYard
from trackworth.yards import all_tracks, is_yard, made_yard, mirror_track, mirrored
from tests.support import (
    BARE, FULL, LISTS, ODD_VALUES, SQUARE, assert_judges, assert_refused, assert_same, dice_of, nest, some_yard,
)

EXAMPLE = (2, 3, ((0, 0), (0, 2), (1, 0), (1, 1)))

GOOD_YARDS = (
    EXAMPLE, SQUARE, FULL, BARE, (12, 12, ()), (1, 12, ((0, 11),)), (12, 1, ((0, 0), (11, 0))), (12, 12, ((11, 11),)),
)

SIXTY_ONE = tuple((a, b) for a in range(12) for b in range(12))[:61]

# Each with what made_yard says of it.
BAD_YARDS = (
    (None, -1), (True, -1), (0, -1), ("", -1), ("abc", -1), ((), -1), ((1, 1), -1), ((1, 1, (), ()), -1),
    ([1, 1, ()], -1),
    ((0, 1, ()), -2), ((13, 1, ()), -2), ((-1, 1, ()), -2), ((True, 1, ()), -2), ((False, 1, ()), -2),
    (("1", 1, ()), -2), ((None, 1, ()), -2), (((1,), 1, ()), -2), ((10 ** 30, 0, 0), -2), ((0, 0, 0), -2),
    ((1, 0, ()), -3), ((1, 13, ()), -3), ((1, -1, ()), -3), ((2, True, 5), -3), ((1, False, ()), -3),
    ((1, "1", ()), -3), ((1, None, ()), -3), ((12, 13, None), -3),
    ((1, 1, 5), -4), ((1, 1, []), -4), ((1, 1, [(0, 0)]), -4), ((1, 1, None), -4), ((1, 1, True), -4),
    ((1, 1, ""), -4), ((12, 12, SIXTY_ONE), -4), ((1, 1, (None,) * 61), -4),
    ((2, 2, ((0, 0), (0, 0))), 1), ((2, 2, ((0, 2),)), 0), ((2, 2, ((2, 0),)), 0), ((2, 2, ((-1, 0),)), 0),
    ((2, 2, ((0, -1),)), 0), ((2, 2, ((1, 1), (0, 1))), 1), ((2, 2, ((0, 1), (0, 0))), 1),
    ((2, 2, ((0, 0), (0, 1), (1, 1), (1, 0))), 3), ((2, 2, ([0, 0],)), 0), ((2, 2, ((0, 0), [0, 1])), 1),
    ((2, 2, ((0,),)), 0), ((2, 2, ((0, 0, 0),)), 0), ((2, 2, ((),)), 0), ((2, 2, (0, 1)), 0), ((2, 2, ("00",)), 0),
    ((2, 2, (None,)), 0), ((2, 2, ((False, 0),)), 0), ((2, 2, ((0, False),)), 0), ((2, 2, ((0, 0), (0, True))), 1),
    ((2, 2, ((0, 0), (True, 1))), 1), ((2, 2, ((0, "0"),)), 0), ((2, 2, (("0", 0),)), 0), ((2, 2, ((0, None),)), 0),
    ((2, 2, ((0, (0,)),)), 0), ((2, 3, ((0, 2), (1, 3))), 1), ((3, 2, ((2, 0), (3, 0))), 1),
    ((1, 1, (None,) * 60), 0), ((2, 2, ((0, 0), (1, 1), 7, 8)), 2), (nest(20), -1), ((2, 2, (nest(18),)), 0),
    ((12, 12, ((11, 11), (11, 12))), 1), ((12, 12, ((11, 11), (12, 11))), 1),
)


class MadeYardTest(unittest.TestCase):

    def test_yards_are_returned(self):
        for yard in GOOD_YARDS:
            assert_same(self, made_yard(yard), yard)

    def test_sixty_tracks_are_taken(self):
        self.assertEqual(len(made_yard(FULL)[2]), 60)

    def test_lanes_from_one_to_twelve(self):
        for firsts in range(1, 13):
            for seconds in range(1, 13):
                assert_same(self, made_yard((firsts, seconds, ())), (firsts, seconds, ()))

    def test_the_first_bad_part_is_told(self):
        for thing, what in BAD_YARDS:
            assert_refused(self, BadYard, what, made_yard, thing)

    def test_a_yard_may_be_given_by_name(self):
        assert_same(self, made_yard(thing=SQUARE), SQUARE)

    def test_odd_values_are_taken_or_refused(self):
        for value in ODD_VALUES + LISTS:
            try:
                assert_same(self, made_yard(value), value)
            except BadYard as error:
                self.assertIs(type(error.what), int)


class IsYardTest(unittest.TestCase):

    def test_true_for_yards(self):
        for yard in GOOD_YARDS:
            self.assertIs(is_yard(yard), True)

    def test_false_for_others(self):
        for thing, _ in BAD_YARDS:
            self.assertIs(is_yard(thing), False)

    def test_it_only_judges(self):
        assert_judges(self, is_yard, [(SQUARE,)])
        self.assertIs(is_yard(thing=SQUARE), True)


class AllTracksTest(unittest.TestCase):

    def test_all_numbers_ascending(self):
        assert_same(self, all_tracks(EXAMPLE), (0, 1, 2, 3))
        assert_same(self, all_tracks(BARE), ())
        assert_same(self, all_tracks(FULL), tuple(range(60)))
        assert_same(self, all_tracks(yard=SQUARE), (0, 1, 2, 3))


class MirrorTest(unittest.TestCase):

    def test_the_example(self):
        assert_same(self, mirrored(EXAMPLE), (3, 2, ((0, 0), (0, 1), (1, 1), (2, 0))))
        self.assertEqual([mirror_track(EXAMPLE, t) for t in all_tracks(EXAMPLE)], [0, 3, 1, 2])

    def test_edges(self):
        assert_same(self, mirrored(BARE), (1, 1, ()))
        assert_same(self, mirrored((12, 1, ((0, 0), (11, 0)))), (1, 12, ((0, 0), (0, 11))))
        assert_same(self, mirror_track((12, 1, ((0, 0), (11, 0))), 1), 1)
        assert_same(self, mirrored(yard=SQUARE), SQUARE)
        assert_same(self, mirror_track(yard=SQUARE, t=1), 2)

    def test_the_mirror_of_the_mirror_is_the_yard(self):
        dice = dice_of(1)
        for _ in range(100):
            yard = some_yard(dice, 12)
            mirror = mirrored(yard)
            assert_same(self, made_yard(mirror), mirror)
            assert_same(self, mirrored(mirror), yard)
            for t in all_tracks(yard):
                a, b = yard[2][t]
                there = mirror_track(yard, t)
                self.assertEqual(mirror[2][there], (b, a))
                assert_same(self, mirror_track(mirror, there), t)

    def test_tracks_that_are_not_there(self):
        for t in (4, 5, -1, 10 ** 30, True, False, None, "0", "", (), (0,), ("in", 0)):
            assert_refused(self, BadTrack, t, mirror_track, EXAMPLE, t)
        assert_refused(self, BadTrack, 0, mirror_track, BARE, 0)
        assert_refused(self, BadTrack, 60, mirror_track, FULL, 60)
        assert_same(self, mirror_track(FULL, 59), 59)


class YardArgumentTest(unittest.TestCase):

    def test_yards_are_checked_as_made_yard_checks_them(self):
        for thing, what in BAD_YARDS:
            assert_refused(self, BadYard, what, all_tracks, thing)
            assert_refused(self, BadYard, what, mirrored, thing)
            assert_refused(self, BadYard, what, mirror_track, thing, 0)
            assert_refused(self, BadYard, what, mirror_track, thing, -1)


if __name__ == "__main__":
    unittest.main()
