"""Moves: point [6.1]."""

import unittest
from itertools import permutations

from trackworth.engine import moved
from trackworth.errors import BadMove, BadRow, BadStand, BadYard, NoneThere, NotDue
from trackworth.stands import is_stand
from tests.model import after, all_moves, all_stands, some_stand, start
from tests.support import (
    BARE, FULL, LISTS, ODD_VALUES, SQUARE, assert_refused, assert_same, dice_of, nest, some_row, some_yard,
)
from tests.test_rows import BAD_ROWS, FALLEN, LONG
from tests.test_stands import BAD_STANDS, ROW, TWO
from tests.test_yards import BAD_YARDS

# Two first lanes, three second lanes and four tracks, so that the numbers of moves have different ends.
YARD = (2, 3, ((0, 0), (0, 2), (1, 0), (1, 1)))

# No moves of YARD.
BAD_MOVES = tuple(value for value in ODD_VALUES + LISTS) + (
    ("in",), ("in", 0, 0), ["in", 0], ("in", 2), ("in", -1), ("in", True), ("in", False), ("in", None), ("in", "0"),
    ("in", (0,)), ("in", 10 ** 30), ("over", 4), ("over", -1), ("over", True), ("over", False), ("over", "1"),
    ("over", (0, 0)), ("over", 0, 0), ("over",), ("out", 3), ("out", -1), ("out", True), ("out", False), ("out", None),
    ("out",), ("out", 0, 0), ("In", 0), ("IN", 0), ("in ", 0), ("", 0), ("up", 0), (0, "in"), (0, 0), (True, 0),
    (None, 0), (("in",), 0), (["in"], 0), ("in", [0]), (("in", 0),), (("in", 0), ("in", 0)), "in", ("i", "n"),
    nest(20), ("in", nest(18)),
)


class MovedTest(unittest.TestCase):

    def test_in(self):
        stand = (ROW, TWO, TWO, 0)
        assert_same(self, moved(SQUARE, ROW, stand, ("in", 0)), ((0, 3, 1), ((2,), ()), TWO, 0))
        assert_same(self, moved(SQUARE, ROW, stand, ("in", 1)), ((0, 3, 1), ((), (2,)), TWO, 0))
        stand = ((1,), ((2, 0), (3,)), TWO, 0)
        assert_same(self, moved(SQUARE, ROW, stand, ("in", 0)), ((), ((2, 0, 1), (3,)), TWO, 0))
        assert_same(self, moved(SQUARE, ROW, stand, ("in", 1)), ((), ((2, 0), (3, 1)), TWO, 0))

    def test_over(self):
        stand = ((1,), ((2, 0), (3,)), TWO, 0)
        assert_same(self, moved(SQUARE, ROW, stand, ("over", 0)), ((1,), ((0,), (3,)), ((2,), ()), 0))
        assert_same(self, moved(SQUARE, ROW, stand, ("over", 1)), ((1,), ((0,), (3,)), ((), (2,)), 0))
        assert_same(self, moved(SQUARE, ROW, stand, ("over", 2)), ((1,), ((2, 0), ()), ((3,), ()), 0))
        stand = ((), ((1,), (3,)), ((2, 0), ()), 0)
        assert_same(self, moved(SQUARE, ROW, stand, ("over", 2)), ((), ((1,), ()), ((2, 0, 3), ()), 0))

    def test_out(self):
        stand = ((), ((3,), ()), ((1,), (2,)), 1)
        assert_same(self, moved(SQUARE, ROW, stand, ("out", 0)), ((), ((3,), ()), ((), (2,)), 2))
        stand = ((), TWO, ((), (3,)), 3)
        assert_same(self, moved(SQUARE, ROW, stand, ("out", 1)), ((), TWO, TWO, 4))
        assert_same(self, moved(yard=SQUARE, row=ROW, stand=stand, move=("out", 1)), ((), TWO, TWO, 4))

    def test_no_wagon_for_the_move(self):
        stand = ((), ((2,), ()), ((0, 1), ()), 0)
        row = (0, 2, 1)
        for move in (("in", 0), ("in", 1), ("over", 2), ("over", 3), ("out", 1)):
            assert_refused(self, NoneThere, move, moved, SQUARE, row, stand, move)
        for move in (("in", 0), ("out", 0)):
            assert_refused(self, NoneThere, move, moved, BARE, (), start(BARE, ()), move)
        for move in all_moves(SQUARE):
            assert_refused(self, NoneThere, move, moved, SQUARE, ROW, ((), TWO, TWO, 4), move)

    def test_the_front_wagon_is_not_due(self):
        stand = ((), ((1,), ()), ((2, 0), (3,)), 0)
        assert_refused(self, NotDue, 2, moved, SQUARE, ROW, stand, ("out", 0))
        assert_refused(self, NotDue, 3, moved, SQUARE, ROW, stand, ("out", 1))
        assert_refused(self, NotDue, 2, moved, SQUARE, ROW, ((), TWO, ((2,), (3, 1)), 1), ("out", 0))

    def test_lanes_and_tracks_of_the_yard(self):
        stand = start(YARD, (0,))
        for many, kind in ((2, "in"), (4, "over"), (3, "out")):
            assert_refused(self, BadMove, (kind, many), moved, YARD, (0,), stand, (kind, many))
            assert_refused(self, BadMove, (kind, -1), moved, YARD, (0,), stand, (kind, -1))
        assert_same(self, moved(YARD, (0,), stand, ("in", 1)), ((), ((), (0,)), ((), (), ()), 0))
        for move in (("over", 3), ("out", 2)):
            assert_refused(self, NoneThere, move, moved, YARD, (0,), stand, move)
        assert_refused(self, BadMove, ("over", 0), moved, BARE, (0,), start(BARE, (0,)), ("over", 0))

    def test_what_is_no_move(self):
        for stand in (start(YARD, (0, 1)), ((), ((0,), ()), ((), (1,), ()), 0), ((), TWO, ((), (), ()), 2)):
            for move in BAD_MOVES:
                assert_refused(self, BadMove, move, moved, YARD, (0, 1), stand, move)

    def test_all_moves_on_all_stands_of_short_rows(self):
        for many in range(4):
            for row in permutations(range(many)):
                for stand in all_stands((2, 1, ((0, 0), (1, 0))), row):
                    self.check((2, 1, ((0, 0), (1, 0))), row, stand)

    def test_longer_rows(self):
        dice = dice_of(42)
        for _ in range(150):
            yard = some_yard(dice, 4)
            row = some_row(dice, 12)
            self.check(yard, row, some_stand(dice, yard, row))

    def test_four_hundred_wagons(self):
        lanes = ((),) * 11
        found = moved(FULL, FALLEN, start(FULL, FALLEN), ("in", 11))
        assert_same(self, found, (FALLEN[1:], lanes + ((399,),), ((),) * 12, 0))
        found = moved(FULL, LONG, ((), (FALLEN,) + lanes, ((),) * 12, 0), ("over", 11))
        assert_same(self, found, ((), (FALLEN[1:],) + lanes, lanes + ((399,),), 0))
        found = moved(FULL, LONG, ((), ((),) * 12, lanes + (LONG,), 0), ("out", 11))
        assert_same(self, found, ((), ((),) * 12, lanes + (LONG[1:],), 1))

    def check(self, yard, row, stand):
        """Each move leads where the plain model leads, or is refused for the right reason."""
        for move in all_moves(yard):
            wanted = after(yard, stand, move)
            if wanted is not None:
                found = moved(yard, row, stand, move)
                assert_same(self, found, wanted)
                assert_same(self, is_stand(yard, row, found), True)
            elif move[0] == "out" and stand[2][move[1]]:
                assert_refused(self, NotDue, stand[2][move[1]][0], moved, yard, row, stand, move)
            else:
                assert_refused(self, NoneThere, move, moved, yard, row, stand, move)


class RefusalTest(unittest.TestCase):

    def test_yards_then_rows_then_stands(self):
        for thing, what in BAD_YARDS:
            assert_refused(self, BadYard, what, moved, thing, None, None, None)
        for thing, what in BAD_ROWS:
            assert_refused(self, BadRow, what, moved, SQUARE, thing, None, None)
        for thing in BAD_STANDS:
            assert_refused(self, BadStand, -1, moved, SQUARE, ROW, thing, None)
            assert_refused(self, BadStand, -1, moved, SQUARE, ROW, thing, ("in", 0))


if __name__ == "__main__":
    unittest.main()
