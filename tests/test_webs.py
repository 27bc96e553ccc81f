"""Pieces and rank: points [2] and [2.1]."""

import unittest

from trackworth.errors import BadPick, BadYard
from trackworth.webs import pieces, rank
from trackworth.yards import all_tracks
from tests.support import (
    BARE, FULL, SQUARE, all_picks, assert_refused, assert_same, complete, dice_of, some_pick, some_yard, yard_of_ring,
)
from tests.test_yards import BAD_YARDS

# No picks of the yard SQUARE with its four tracks.
BAD_PICKS = (
    None, True, False, 0, 1, "", "01", [], [0], [0, 1], (4,), (-1,), (0, 4), (0, 0), (1, 0), (0, 2, 1), (0, 1, 2, 3, 3),
    (0, 1, 2, 3, 4), (True,), (False,), (0, True), (False, 1), ("0",), (None,), ((0,),), ((),), (0, None), (10 ** 30,),
    (0, -1), (2, 2),
)


def reached(yard, pick, lane):
    """All lanes that can be reached from a lane, by going over tracks as long as new lanes come."""
    found = {lane}
    while True:
        further = set(found)
        for t in pick:
            pair = {yard[2][t][0], yard[0] + yard[2][t][1]}
            if pair & found:
                further |= pair
        if further == found:
            return tuple(sorted(found))
        found = further


def pieces_by_reach(yard, pick):
    """The pieces, lane by lane."""
    lots = [reached(yard, pick, lane) for lane in range(yard[0] + yard[1])]
    return tuple(sorted(set(lot for lot in lots if len(lot) > 1)))


class PiecesTest(unittest.TestCase):

    def test_the_example(self):
        assert_same(self, pieces(SQUARE, (0, 3)), ((0, 2), (1, 3)))
        assert_same(self, rank(SQUARE, (0, 3)), 2)

    def test_no_track(self):
        for yard in (SQUARE, BARE, FULL):
            assert_same(self, pieces(yard, ()), ())
            assert_same(self, rank(yard, ()), 0)

    def test_one_piece(self):
        assert_same(self, pieces(SQUARE, (0, 1, 2, 3)), ((0, 1, 2, 3),))
        assert_same(self, rank(SQUARE, (0, 1, 2, 3)), 3)

    def test_lanes_without_a_track_are_left_out(self):
        yard = (3, 3, ((0, 2), (2, 0)))
        assert_same(self, pieces(yard, (0, 1)), ((0, 5), (2, 3)))
        assert_same(self, pieces(yard, (1,)), ((2, 3),))

    def test_pieces_come_by_their_least_lanes(self):
        yard = (4, 4, ((0, 3), (1, 0), (2, 3), (3, 0)))
        assert_same(self, pieces(yard, (0, 1, 2, 3)), ((0, 2, 7), (1, 3, 4)))
        late = (4, 2, ((0, 1), (1, 0), (2, 0), (3, 1)))
        assert_same(self, pieces(late, (0, 1, 2, 3)), ((0, 3, 5), (1, 2, 4)))

    def test_two_lots_that_a_later_track_links(self):
        yard = (3, 3, ((0, 0), (1, 1), (2, 0), (2, 1)))
        assert_same(self, pieces(yard, (0, 1, 2, 3)), ((0, 1, 2, 3, 4),))
        assert_same(self, rank(yard, (0, 1, 2, 3)), 4)

    def test_large_yards(self):
        assert_same(self, pieces(FULL, all_tracks(FULL)), (tuple(range(5)) + tuple(range(12, 24)),))
        assert_same(self, rank(FULL, all_tracks(FULL)), 16)
        for many in range(4, 26, 2):
            yard = yard_of_ring(many)
            assert_same(self, pieces(yard, all_tracks(yard)), (tuple(range(many)),))
            assert_same(self, rank(yard, all_tracks(yard)), many - 1)

    def test_all_joined_lanes_have_the_rank_of_the_overview(self):
        for firsts in range(1, 8):
            for seconds in range(1, 8):
                yard = complete(firsts, seconds)
                assert_same(self, rank(yard, all_tracks(yard)), firsts + seconds - 1)

    def test_pieces_are_what_can_be_reached(self):
        dice = dice_of(2)
        yards = [complete(2, 2), complete(2, 3), complete(3, 2)]
        cases = [(yard, pick) for yard in yards for pick in all_picks(yard)]
        for _ in range(300):
            yard = some_yard(dice, dice.choice((3, 5, 12)))
            cases.append((yard, some_pick(dice, yard)))
        for yard, pick in cases:
            wanted = pieces_by_reach(yard, pick)
            assert_same(self, pieces(yard, pick), wanted)
            assert_same(self, rank(yard, pick), sum(len(lot) for lot in wanted) - len(wanted))

    def test_arguments_by_name(self):
        assert_same(self, pieces(yard=SQUARE, pick=(0,)), ((0, 2),))
        assert_same(self, rank(yard=SQUARE, pick=(0,)), 1)


class RefusalTest(unittest.TestCase):

    def test_bad_yards_come_first(self):
        for thing, what in BAD_YARDS:
            for pick in ((), (0,), None):
                assert_refused(self, BadYard, what, pieces, thing, pick)
                assert_refused(self, BadYard, what, rank, thing, pick)

    def test_bad_picks(self):
        for pick in BAD_PICKS:
            assert_refused(self, BadPick, -1, pieces, SQUARE, pick)
            assert_refused(self, BadPick, -1, rank, SQUARE, pick)

    def test_the_last_track_and_the_next_number(self):
        assert_same(self, rank(FULL, (59,)), 1)
        assert_refused(self, BadPick, -1, rank, FULL, (60,))
        assert_refused(self, BadPick, -1, rank, BARE, (0,))


if __name__ == "__main__":
    unittest.main()
