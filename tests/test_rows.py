"""Rows, places and joined rows: points [3] and [3.4]."""

import unittest
from itertools import permutations

from trackworth.errors import BadRow, TooMany
from trackworth.rows import is_row, joined, made_row, places
from tests.support import (
    LISTS, ODD_VALUES, assert_judges, assert_refused, assert_same, dice_of, nest, some_row,
)

LONG = tuple(range(400))
FALLEN = LONG[::-1]

GOOD_ROWS = ((), (0,), (0, 1), (1, 0), (2, 0, 3, 1), (3, 0, 4, 2, 1), LONG, FALLEN, LONG[200:] + LONG[:200])

# Each with what made_row says of it.
BAD_ROWS = (
    (None, -1), (True, -1), (False, -1), (0, -1), (3, -1), ("", -1), ("0", -1), ([], -1), ([0], -1), ([0, 1], -1),
    (tuple(range(401)), -1), ((None,) * 401, -1), ((0,) * 401, -1),
    ((1,), 0), ((-1,), 0), ((True,), 0), ((False,), 0), ((None,), 0), (("0",), 0), (((0,),), 0), (((),), 0),
    ((0, 0), 1), ((1, 1), 1), ((0, 2), 1), ((2, 0), 0), ((0, True), 1), ((1, False), 1), ((True, 0), 0),
    ((False, 1), 0), ((0, -1), 1), ((1, 2, 3), 2), ((0, 1, 1, 0), 2), ((3, 1, 2, 3), 3), ((0, 1, 2, 4), 3),
    ((0, 1, 10 ** 30), 2), ((0, 0, 5), 1), ((0, 5, 0), 1), (nest(20), 0), ((0, nest(18)), 1),
    (LONG[:399] + (400,), 399), (LONG[:399] + (398,), 399), ((0,) * 400, 1), (((), ()), 0),
    (([0], 1), 0), ((0, [1]), 1),
)


class MadeRowTest(unittest.TestCase):

    def test_rows_are_returned(self):
        for row in GOOD_ROWS:
            assert_same(self, made_row(row), row)
        for many in range(5):
            for row in permutations(range(many)):
                assert_same(self, made_row(row), row)
        assert_same(self, made_row(thing=(1, 0)), (1, 0))

    def test_the_first_bad_wagon_is_told(self):
        for thing, what in BAD_ROWS:
            assert_refused(self, BadRow, what, made_row, thing)

    def test_odd_values_are_taken_or_refused(self):
        for value in ODD_VALUES + LISTS:
            try:
                assert_same(self, made_row(value), value)
            except BadRow as error:
                self.assertIs(type(error.what), int)


class IsRowTest(unittest.TestCase):

    def test_true_for_rows(self):
        for row in GOOD_ROWS:
            self.assertIs(is_row(row), True)

    def test_false_for_others(self):
        for thing, _ in BAD_ROWS:
            self.assertIs(is_row(thing), False)

    def test_it_only_judges(self):
        assert_judges(self, is_row, [((1, 0),)])


class PlacesTest(unittest.TestCase):

    def test_the_example(self):
        assert_same(self, places((2, 0, 3, 1)), (1, 3, 0, 2))

    def test_edges(self):
        assert_same(self, places(()), ())
        assert_same(self, places((0,)), (0,))
        assert_same(self, places(LONG), LONG)
        assert_same(self, places(FALLEN), FALLEN)
        assert_same(self, places(LONG[100:] + LONG[:100]), LONG[300:] + LONG[:300])

    def test_each_wagon_stands_at_its_place(self):
        dice = dice_of(7)
        for _ in range(100):
            row = some_row(dice, 40)
            found = places(row)
            self.assertEqual([row[place] for place in found], list(range(len(row))))
            assert_same(self, made_row(found), found)
            assert_same(self, places(found), row)

    def test_bad_rows(self):
        for thing, what in BAD_ROWS:
            assert_refused(self, BadRow, what, places, thing)


class JoinedTest(unittest.TestCase):

    def test_the_example(self):
        assert_same(self, joined((1, 0), (0, 2, 1)), (1, 0, 2, 4, 3))

    def test_edges(self):
        assert_same(self, joined((), ()), ())
        assert_same(self, joined((1, 0), ()), (1, 0))
        assert_same(self, joined((), (1, 0)), (1, 0))
        assert_same(self, joined((0,), (0,)), (0, 1))
        assert_same(self, joined(LONG, ()), LONG)
        assert_same(self, joined((), FALLEN), FALLEN)
        assert_same(self, joined(one=(0,), two=(1, 0)), (0, 2, 1))

    def test_four_hundred_wagons_together(self):
        assert_same(self, joined(LONG[:150], LONG[:250]), LONG)
        assert_same(self, joined((0,), LONG[:399][::-1]), (0,) + LONG[1:][::-1])

    def test_more_wagons_are_refused(self):
        assert_refused(self, TooMany, 401, joined, LONG[:150], LONG[:251])
        assert_refused(self, TooMany, 401, joined, LONG, (0,))
        assert_refused(self, TooMany, 401, joined, (0,), LONG)
        assert_refused(self, TooMany, 800, joined, LONG, FALLEN)

    def test_both_are_checked_before_they_are_joined(self):
        for thing, what in BAD_ROWS:
            assert_refused(self, BadRow, what, joined, thing, None)
            assert_refused(self, BadRow, what, joined, thing, (0, 0))
            assert_refused(self, BadRow, what, joined, LONG, thing)
            assert_refused(self, BadRow, what, joined, (), thing)


if __name__ == "__main__":
    unittest.main()
