"""Bad rows: points [8] and [0.3] (c)."""

import unittest

from trackworth.badrows import bad_row
from trackworth.errors import BadPick, BadYard, TooMany
from trackworth.falls import falls
from trackworth.plans import plan
from trackworth.rings import ring
from trackworth.rows import is_row
from trackworth.waits import order
from trackworth.yards import all_tracks
from tests.search import can_be_dealt
from tests.support import (
    BARE, FULL, SQUARE, all_picks, assert_refused, assert_same, complete, dice_of, some_dealing, some_pick, some_yard,
    yard_of_ring,
)
from tests.test_rings import SIX_AND_FOUR, TWO_SQUARES
from tests.test_waits import TOO_MUCH
from tests.test_webs import BAD_PICKS
from tests.test_yards import BAD_YARDS

# Yards with a ring of four tracks, and one to four tracks more.
ONE_MORE = (3, 2, ((0, 0), (0, 1), (1, 0), (1, 1), (2, 1)))
TWO_MORE = (3, 3, ((0, 0), (0, 1), (1, 0), (1, 1), (2, 1), (2, 2)))
THREE_MORE = (3, 3, ((0, 0), (0, 1), (0, 2), (1, 0), (1, 1), (1, 2), (2, 0)))
FOUR_MORE = (4, 4, ((0, 0), (0, 1), (1, 0), (1, 1), (2, 1), (2, 2), (3, 2), (3, 3)))

SIZES = ((SQUARE, 10), (ONE_MORE, 31), (TWO_MORE, 94), (THREE_MORE, 283), (complete(2, 3), 94))


def block(j, many, length):
    """The wagons of the block U(j), by the words of [8]."""
    if j == many:
        return ()
    inner = block(j + 1, many, length)
    copies = length - 1 if j <= many - length else 1
    wagons = [copy * len(inner) + wagon for copy in range(copies) for wagon in inner]
    return tuple([len(wagons)] + wagons)


def size(many, length):
    """The number of wagons of the bad row."""
    found = 0
    for j in range(many - 1, -1, -1):
        found = 1 + found * (length - 1 if j <= many - length else 1)
    return found


class BadRowTest(unittest.TestCase):

    def test_the_example(self):
        assert_same(self, bad_row(SQUARE, (0, 1, 2, 3)), (9, 2, 1, 0, 5, 4, 3, 8, 7, 6))
        assert_same(self, bad_row(SQUARE, (0, 1, 2)), None)
        assert_same(self, bad_row(yard=SQUARE, pick=(0, 1, 2, 3)), TOO_MUCH)

    def test_no_ring(self):
        for yard, pick in ((BARE, ()), (SQUARE, ()), (SQUARE, (1, 2, 3)), (FULL, ()), (FULL, tuple(range(12)))):
            assert_same(self, bad_row(yard, pick), None)

    def test_further_tracks(self):
        for yard, many in SIZES:
            found = bad_row(yard, all_tracks(yard))
            self.assertEqual(len(found), many)
            assert_same(self, is_row(found), True)
            self.assertEqual(falls(found), len(yard[2]))
            assert_same(self, found, block(0, len(yard[2]), 4))
        inner = TOO_MUCH
        wanted = (30,) + inner + tuple(10 + wagon for wagon in inner) + tuple(20 + wagon for wagon in inner)
        assert_same(self, bad_row(ONE_MORE, all_tracks(ONE_MORE)), wanted)

    def test_longer_rings(self):
        self.assertEqual(len(bad_row(yard_of_ring(6), (0, 1, 2, 3, 4, 5))), 26)
        for many in range(4, 22, 2):
            yard = yard_of_ring(many)
            found = bad_row(yard, all_tracks(yard))
            self.assertEqual(len(found), (many - 1) ** 2 + 1)
            assert_same(self, found, block(0, many, many))
            self.assertEqual(falls(found), many)
        assert_refused(self, TooMany, 442, bad_row, yard_of_ring(22), tuple(range(22)))
        assert_refused(self, TooMany, 530, bad_row, yard_of_ring(24), tuple(range(24)))

    def test_more_than_four_hundred_wagons(self):
        assert_refused(self, TooMany, 850, bad_row, FOUR_MORE, all_tracks(FOUR_MORE))
        assert_refused(self, TooMany, 850, bad_row, TWO_SQUARES, all_tracks(TWO_SQUARES))
        assert_refused(self, TooMany, size(60, 4), bad_row, FULL, all_tracks(FULL))
        self.assertGreater(size(60, 4), 10 ** 25)

    def test_the_shortest_ring_of_the_pick_counts(self):
        assert_refused(self, TooMany, size(10, 4), bad_row, SIX_AND_FOUR, all_tracks(SIX_AND_FOUR))
        self.assertEqual(len(bad_row(SIX_AND_FOUR, (0, 1, 2, 3, 4, 5))), 26)
        self.assertEqual(len(bad_row(SIX_AND_FOUR, (0, 1, 2, 3, 4, 5, 6))), 131)
        assert_refused(self, TooMany, 656, bad_row, SIX_AND_FOUR, (0, 1, 2, 3, 4, 5, 6, 7))
        self.assertEqual(len(bad_row(SIX_AND_FOUR, (0, 6, 7, 8, 9))), 31)
        self.assertEqual(len(bad_row(SIX_AND_FOUR, (6, 7, 8, 9))), 10)

    def test_yards_and_picks(self):
        dice = dice_of(61)
        cases = [(complete(2, 3), pick) for pick in all_picks(complete(2, 3))]
        for _ in range(200):
            yard = some_yard(dice, 5, 8)
            cases.append((yard, some_pick(dice, yard)))
        for yard, pick in cases:
            found = ring(yard, pick)
            if found is None:
                assert_same(self, bad_row(yard, pick), None)
            elif size(len(pick), len(found)) > 400:
                assert_refused(self, TooMany, size(len(pick), len(found)), bad_row, yard, pick)
            else:
                row = bad_row(yard, pick)
                assert_same(self, row, block(0, len(pick), len(found)))
                assert_same(self, plan(yard, pick, row), None)

    def test_no_dealing_over_the_pick_works(self):
        cases = [(yard, all_tracks(yard)) for yard, _ in SIZES]
        cases.append((yard_of_ring(6), (0, 1, 2, 3, 4, 5)))
        cases.extend((complete(2, 3), pick) for pick in all_picks(complete(2, 3)))
        cases.extend((ONE_MORE, pick) for pick in all_picks(ONE_MORE))
        for yard, pick in cases:
            row = bad_row(yard, pick)
            if row is not None:
                self.assertFalse(can_be_dealt(yard, pick, row), (yard, pick))

    def test_one_wagon_less_may_be_dealt(self):
        # The row of the ring of four, without the last wagon of all, has as many falls and can be dealt.
        row = (8, 2, 1, 0, 5, 4, 3, 7, 6)
        self.assertEqual(falls(row), 4)
        self.assertTrue(can_be_dealt(SQUARE, (0, 1, 2, 3), row))
        self.assertTrue(can_be_dealt(ONE_MORE, all_tracks(ONE_MORE), TOO_MUCH))

    def test_no_dealing_at_random_works(self):
        dice = dice_of(62)
        for yard in (SQUARE, ONE_MORE, TWO_MORE, yard_of_ring(20)):
            row = bad_row(yard, all_tracks(yard))
            for _ in range(40):
                assert_same(self, order(yard, row, some_dealing(dice, yard, row)), None)


class RefusalTest(unittest.TestCase):

    def test_yards_and_then_picks(self):
        for thing, what in BAD_YARDS:
            assert_refused(self, BadYard, what, bad_row, thing, None)
        for pick in BAD_PICKS:
            assert_refused(self, BadPick, -1, bad_row, SQUARE, pick)


if __name__ == "__main__":
    unittest.main()
