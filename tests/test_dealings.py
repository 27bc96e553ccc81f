"""Dealings and their falls: points [4] and [4.1]."""

import unittest
from itertools import permutations, product

from trackworth.dealings import fallen, is_dealing, made_dealing
from trackworth.errors import BadDealing, BadRow, BadYard
from tests.support import (
    BARE, FULL, LISTS, ODD_VALUES, SQUARE, assert_judges, assert_refused, assert_same, dice_of, nest, some_dealing,
    some_row,
)
from tests.test_rows import BAD_ROWS, FALLEN, LONG
from tests.test_yards import BAD_YARDS

ROW = (2, 0, 3, 1)

# No dealings of the yard SQUARE and of ROW, each with what made_dealing says of it.
BAD_DEALINGS = (
    (None, -1), (True, -1), (0, -1), ("0000", -1), ([], -1), ([0, 0, 0, 0], -1), ((), -1), ((0, 0, 0), -1),
    ((0, 0, 0, 0, 0), -1), ((9, 9, 9), -1), (nest(20), -1),
    ((4, 0, 0, 0), 0), ((0, 4, 0, 0), 1), ((0, 0, 0, 4), 3), ((-1, 0, 0, 0), 0), ((0, 0, -1, 9), 2), ((9, 9, 9, 9), 0),
    ((True, 0, 0, 0), 0), ((0, False, 0, 0), 1), ((0, 1, True, 0), 2), ((0, 0, 0, None), 3), ((0, "1", 0, 0), 1),
    ((0, (1,), 0, 0), 1), (((), (), (), ()), 0), ((0, 0, 10 ** 30, 0), 2), ((0, 0, [0], 0), 2),
    ((0, 0, 0, nest(18)), 3),
)


def fallen_by_rule(row, dealing):
    """The first place with a greater wagon of its track ahead, and the last such wagon."""
    for behind in range(len(row)):
        for ahead in range(behind - 1, -1, -1):
            if dealing[ahead] == dealing[behind] and row[ahead] > row[behind]:
                return (row[ahead], row[behind])
    return None


class MadeDealingTest(unittest.TestCase):

    def test_dealings_are_returned(self):
        for row, dealing in ((ROW, (0, 1, 2, 3)), (ROW, (3, 3, 3, 3)), ((), ()), ((0,), (2,)), (LONG, (1,) * 400)):
            assert_same(self, made_dealing(SQUARE, row, dealing), dealing)
        assert_same(self, made_dealing(BARE, (), ()), ())
        assert_same(self, made_dealing(FULL, LONG, LONG[:60] * 6 + LONG[:40]), LONG[:60] * 6 + LONG[:40])
        assert_same(self, made_dealing(yard=SQUARE, row=(0,), thing=(1,)), (1,))

    def test_the_first_bad_place_is_told(self):
        for thing, what in BAD_DEALINGS:
            assert_refused(self, BadDealing, what, made_dealing, SQUARE, ROW, thing)

    def test_edges(self):
        assert_refused(self, BadDealing, 0, made_dealing, BARE, (0,), (0,))
        assert_refused(self, BadDealing, -1, made_dealing, BARE, (), (0,))
        assert_refused(self, BadDealing, -1, made_dealing, BARE, (), None)
        assert_refused(self, BadDealing, -1, made_dealing, BARE, (), [])
        assert_refused(self, BadDealing, -1, made_dealing, SQUARE, (0,), ())
        assert_refused(self, BadDealing, -1, made_dealing, SQUARE, LONG, (0,) * 399)
        assert_refused(self, BadDealing, -1, made_dealing, SQUARE, LONG, (0,) * 401)
        assert_refused(self, BadDealing, 399, made_dealing, FULL, LONG, (59,) * 399 + (60,))
        assert_same(self, made_dealing(FULL, LONG, (59,) * 400), (59,) * 400)

    def test_yards_come_first_and_then_rows(self):
        for function in (made_dealing, fallen):
            for thing, what in BAD_YARDS:
                assert_refused(self, BadYard, what, function, thing, None, None)
                assert_refused(self, BadYard, what, function, thing, (0,), (0,))
            for thing, what in BAD_ROWS:
                assert_refused(self, BadRow, what, function, SQUARE, thing, None)
                assert_refused(self, BadRow, what, function, BARE, thing, (0,))

    def test_odd_values_are_taken_or_refused(self):
        for value in ODD_VALUES + LISTS:
            for row in ((), (0,), (1, 0)):
                try:
                    assert_same(self, made_dealing(SQUARE, row, value), value)
                except BadDealing as error:
                    self.assertIs(type(error.what), int)


class IsDealingTest(unittest.TestCase):

    def test_true_for_dealings(self):
        for row, dealing in ((ROW, (0, 1, 2, 3)), (ROW, (3, 3, 3, 3)), ((), ()), (LONG, (1,) * 400)):
            assert_same(self, is_dealing(SQUARE, row, dealing), True)
        assert_same(self, is_dealing(yard=BARE, row=(), thing=()), True)

    def test_false_for_others(self):
        for thing, _ in BAD_DEALINGS:
            assert_same(self, is_dealing(SQUARE, ROW, thing), False)
        for thing, _ in BAD_YARDS:
            assert_same(self, is_dealing(thing, (), ()), False)
        for thing, _ in BAD_ROWS:
            assert_same(self, is_dealing(SQUARE, thing, ()), False)
            assert_same(self, is_dealing(SQUARE, thing, thing), False)

    def test_it_only_judges(self):
        assert_judges(self, is_dealing, [(SQUARE, ROW, (0, 1, 2, 3)), (BARE, (), ())])


class FallenTest(unittest.TestCase):

    def test_the_example(self):
        assert_same(self, fallen(SQUARE, (4, 3, 1, 0, 2), (0, 0, 1, 1, 0)), (4, 3))
        assert_same(self, fallen(SQUARE, (3, 2, 1, 0), (0, 1, 2, 3)), None)

    def test_edges(self):
        assert_same(self, fallen(BARE, (), ()), None)
        assert_same(self, fallen(SQUARE, (0,), (0,)), None)
        assert_same(self, fallen(SQUARE, LONG, (0,) * 400), None)
        assert_same(self, fallen(SQUARE, FALLEN, (0,) * 400), (399, 398))
        assert_same(self, fallen(SQUARE, LONG[1:] + (0,), (2,) * 400), (399, 0))
        assert_same(self, fallen(SQUARE, LONG[1:] + (0,), (2,) * 399 + (0,)), None)
        assert_same(self, fallen(SQUARE, (1, 0), (2, 2)), (1, 0))
        assert_same(self, fallen(yard=SQUARE, row=(1, 0), dealing=(2, 1)), None)

    def test_the_first_place_and_the_last_wagon_ahead(self):
        assert_same(self, fallen(SQUARE, (3, 4, 2, 1, 0), (0, 0, 0, 0, 0)), (4, 2))
        assert_same(self, fallen(SQUARE, (3, 4, 2, 1, 0), (0, 1, 0, 1, 1)), (3, 2))
        assert_same(self, fallen(SQUARE, (3, 4, 2, 1, 0), (0, 1, 2, 1, 0)), (4, 1))
        assert_same(self, fallen(SQUARE, (1, 4, 2, 3, 0), (0, 1, 2, 2, 0)), (1, 0))

    def test_all_dealings_of_short_rows(self):
        yard = (2, 2, ((0, 0), (0, 1), (1, 0)))
        for many in range(5):
            for row in permutations(range(many)):
                for dealing in product(range(3), repeat=many):
                    assert_same(self, fallen(yard, row, dealing), fallen_by_rule(row, dealing))

    def test_dealings_of_longer_rows(self):
        dice = dice_of(11)
        for _ in range(300):
            row = some_row(dice, 30)
            dealing = some_dealing(dice, FULL, row)
            assert_same(self, fallen(FULL, row, dealing), fallen_by_rule(row, dealing))

    def test_bad_dealings(self):
        for thing, what in BAD_DEALINGS:
            assert_refused(self, BadDealing, what, fallen, SQUARE, ROW, thing)


if __name__ == "__main__":
    unittest.main()
