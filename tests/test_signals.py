"""Green moves: point [6.2]."""

import unittest
from itertools import permutations, product

from trackworth.engine import moved
from trackworth.errors import BadDealing, BadRow, BadStand, BadYard
from trackworth.signals import greens
from tests.model import after, all_moves, all_stands, green_moves, some_stand, start
from tests.support import (
    BARE, FULL, SQUARE, assert_refused, assert_same, complete, dice_of, some_dealing, some_row, some_yard,
)
from tests.test_dealings import BAD_DEALINGS
from tests.test_rows import BAD_ROWS, FALLEN, LONG
from tests.test_stands import BAD_STANDS, ROW, TWO
from tests.test_yards import BAD_YARDS

CROSS = (2, 2, ((0, 1), (1, 0)))


class GreensTest(unittest.TestCase):

    def check(self, yard, row, dealing, stand):
        """The green moves are those of the words, and each of them can be made."""
        found = greens(yard, row, dealing, stand)
        assert_same(self, found, green_moves(yard, row, dealing, stand))
        for move in found:
            assert_same(self, moved(yard, row, stand, move), after(yard, stand, move))

    def test_the_example(self):
        found = greens(SQUARE, (1, 0), (0, 3), ((), ((1,), (0,)), ((), ()), 0))
        assert_same(self, found, (("over", 0), ("over", 3)))

    def test_in(self):
        assert_same(self, greens(SQUARE, ROW, (3, 0, 1, 2), start(SQUARE, ROW)), (("in", 1),))
        assert_same(self, greens(SQUARE, ROW, (0, 3, 3, 3), start(SQUARE, ROW)), (("in", 0),))
        assert_same(self, greens(SQUARE, ROW, (0, 3, 2, 3), ((0, 3, 1), ((2,), ()), TWO, 0)), (("in", 1), ("over", 0)))
        assert_same(self, greens(SQUARE, ROW, (1, 3, 2, 3), ((0, 3, 1), ((2,), ()), TWO, 0)), (("in", 1),))

    def test_over_only_behind_all_lesser_wagons_of_the_second_lane(self):
        row = (1, 0)
        # Wagon 0 waits, stands in the other first lane, stands behind in the same one, or has gone over.
        assert_same(self, greens(SQUARE, row, (0, 2), ((0,), ((1,), ()), TWO, 0)), (("in", 1),))
        assert_same(self, greens(SQUARE, row, (0, 2), ((), ((1,), (0,)), TWO, 0)), (("over", 2),))
        assert_same(self, greens(SQUARE, row, (0, 0), ((), ((1, 0), ()), TWO, 0)), ())
        assert_same(self, greens(SQUARE, row, (0, 2), ((), ((1,), ()), ((0,), ()), 0)), (("over", 0), ("out", 0)))
        assert_same(self, greens(SQUARE, row, (0, 2), ((), ((1,), ()), TWO, 1)), (("over", 0),))
        assert_same(self, greens(SQUARE, row, (0, 3), ((0,), ((1,), ()), TWO, 0)), (("in", 1), ("over", 0)))

    def test_a_wagon_in_a_wrong_lane_goes_over_no_track(self):
        # Wagon 1 has track 0 from first lane 0, but it lies in first lane 1.
        assert_same(self, greens(SQUARE, (0, 1), (0, 0), ((), ((), (1,)), TWO, 1)), ())
        assert_same(self, greens(CROSS, (0, 1), (0, 0), ((), ((), (1,)), TWO, 1)), ())
        assert_same(self, greens(CROSS, (0, 1), (0, 1), ((), ((), (1,)), ((0,), ()), 0)), (("over", 1), ("out", 0)))
        # It is not over as long as it lies there, so a greater wagon waits for it; wherever a wagon leaves, it leaves.
        assert_same(self, greens(SQUARE, (1, 0), (0, 0), ((), ((1,), (0,)), TWO, 0)), ())
        assert_same(self, greens(SQUARE, (0, 1), (0, 0), ((), TWO, ((), (0, 1)), 0)), (("out", 1),))
        assert_same(self, greens(SQUARE, (1, 0), (0, 0), ((), ((1,), ()), ((), (0,)), 0)), (("over", 0), ("out", 1)))

    def test_out_only_if_due(self):
        assert_same(self, greens(SQUARE, (0, 1, 2), (0, 0, 3), ((), TWO, ((1,), (2, 0)), 0)), ())
        assert_same(self, greens(SQUARE, (0, 1, 2), (0, 0, 3), ((), TWO, ((1,), (2,)), 1)), (("out", 0),))
        assert_same(self, greens(SQUARE, (0, 1, 2), (0, 0, 3), ((), TWO, ((), (2,)), 2)), (("out", 1),))

    def test_the_order_of_the_moves(self):
        yard = complete(3, 3)
        row = (1, 2, 3, 0, 4)
        stand = ((4,), ((1,), (2,), (3,)), ((), (), (0,)), 0)
        found = greens(yard, row, (1, 3, 8, 2, 4), stand)
        assert_same(self, found, (("in", 1), ("over", 1), ("over", 3), ("over", 8), ("out", 2)))

    def test_no_wagons_and_nothing_left(self):
        for yard in (BARE, SQUARE, FULL):
            assert_same(self, greens(yard, (), (), start(yard, ())), ())
        assert_same(self, greens(SQUARE, ROW, (0, 1, 2, 3), ((), TWO, TWO, 4)), ())

    def test_arguments_by_name(self):
        found = greens(yard=SQUARE, row=(0,), dealing=(3,), stand=((), ((), (0,)), TWO, 0))
        assert_same(self, found, (("over", 3),))

    def test_all_stands_and_dealings_of_short_rows(self):
        for yard in (SQUARE, (2, 1, ((0, 0), (1, 0))), CROSS):
            for many in range(3):
                for row in permutations(range(many)):
                    for stand in all_stands(yard, row):
                        for dealing in product(range(len(yard[2])), repeat=many):
                            self.check(yard, row, dealing, stand)

    def test_stands_of_three_wagons(self):
        dice = dice_of(43)
        for row in permutations(range(3)):
            for stand in all_stands(SQUARE, row):
                self.check(SQUARE, row, some_dealing(dice, SQUARE, row), stand)

    def test_longer_rows(self):
        dice = dice_of(44)
        for _ in range(400):
            yard = some_yard(dice, 5)
            row = some_row(dice, 15) if yard[2] else ()
            self.check(yard, row, some_dealing(dice, yard, row), some_stand(dice, yard, row))

    def test_four_hundred_wagons(self):
        dice = dice_of(45)
        for row in (LONG, FALLEN):
            for _ in range(3):
                self.check(FULL, row, some_dealing(dice, FULL, row), some_stand(dice, FULL, row))

    def test_all_moves_that_are_not_told_are_red_by_the_words(self):
        stand = ((3,), ((1,), (0,)), ((), (2,)), 0)
        found = greens(SQUARE, (1, 0, 2, 3), (1, 2, 1, 3), stand)
        assert_same(self, found, (("in", 1), ("over", 1), ("over", 2)))
        self.assertEqual([move for move in all_moves(SQUARE) if move in found], list(found))


class RefusalTest(unittest.TestCase):

    def test_yards_rows_dealings_and_then_stands(self):
        for thing, what in BAD_YARDS:
            assert_refused(self, BadYard, what, greens, thing, None, None, None)
        for thing, what in BAD_ROWS:
            assert_refused(self, BadRow, what, greens, SQUARE, thing, None, None)
        for thing, what in BAD_DEALINGS:
            assert_refused(self, BadDealing, what, greens, SQUARE, ROW, thing, None)
        for thing in BAD_STANDS:
            assert_refused(self, BadStand, -1, greens, SQUARE, ROW, (0, 1, 2, 3), thing)


if __name__ == "__main__":
    unittest.main()
