"""Stands: point [6]."""

import unittest
from itertools import permutations

from trackworth.errors import BadRow, BadYard
from trackworth.stands import all_home, begun, is_stand
from tests.model import all_stands, some_stand, start
from tests.support import (
    BARE, FULL, LISTS, ODD_VALUES, SQUARE, assert_judges, assert_refused, assert_same, dice_of, nest, some_row,
    some_yard,
)
from tests.test_rows import BAD_ROWS, FALLEN, LONG
from tests.test_yards import BAD_YARDS

ROW = (2, 0, 3, 1)
TWO = ((), ())

# Stands of the yard SQUARE and of ROW, the last ones such as no moves lead to.
GOOD_STANDS = (
    (ROW, TWO, TWO, 0), ((0, 3, 1), ((2,), ()), TWO, 0), ((0, 3, 1), TWO, ((), (2,)), 0), ((), TWO, TWO, 4),
    ((), ((3,), (1,)), ((2,), ()), 1), ((1,), ((2, 3), ()), TWO, 1), ((), TWO, ((3,), (2,)), 2),
    ((), ((3, 2, 1, 0), ()), TWO, 0), ((), ((1, 3), (0,)), ((), (2,)), 0), ((), TWO, ((), (3, 2, 1, 0)), 0),
    ((), TWO, ((3, 0), (2, 1)), 0), ((3, 1), ((), (0, 2)), TWO, 0), ((), ((), (3,)), TWO, 3),
    ((1,), TWO, ((3, 2), ()), 1),
)

# No stands of the yard SQUARE and of ROW.
BAD_STANDS = (
    None, True, False, 0, "", "abcd", (), [], (ROW, TWO, TWO), (ROW, TWO, TWO, 0, 0), [ROW, TWO, TWO, 0], nest(20),
    (None, TWO, TWO, 4), (0, TWO, TWO, 0), ("", TWO, TWO, 4), ([], TWO, TWO, 4), (list(ROW), TWO, TWO, 0),
    ((), None, TWO, 4), ((), (), TWO, 4), ((), ((),), TWO, 4), ((), ((), (), ()), TWO, 4), ((), [(), ()], TWO, 4),
    ((), ((), None), TWO, 4), ((), ((), 3), TWO, 3), ((), ([], ()), TWO, 4), ((), ([3], ()), TWO, 3),
    ((), "ab", TWO, 4), ((), ("", ""), TWO, 4), ((), (0, 1), ((2,), (3,)), 0), ((), TWO, (2, 3), 2),
    ((), TWO, None, 4), ((), TWO, (), 4), ((), TWO, ((),), 4), ((), TWO, ((), (), ()), 4), ((), TWO, [(), ()], 4),
    ((), TWO, ([], ()), 4), ((), TWO, ((), True), 4), ((), TWO, ([3], ()), 3), ((), TWO, ("3", ()), 3),
    (ROW, TWO, TWO, None), (ROW, TWO, TWO, False), (ROW, TWO, TWO, ""), (ROW, TWO, TWO, -1), (ROW, TWO, TWO, ()),
    ((), TWO, TWO, 5), ((), TWO, TWO, "4"), ((), TWO, TWO, 10 ** 30), ((), TWO, TWO, 3), (ROW, TWO, TWO, 1),
    ((0, 3, 1), ((2,), ()), TWO, False), ((), ((3,), (2,)), ((1,), ()), True),
    # Wagons that are nowhere, that stand twice, that are none, and True and False in their places.
    ((0, 3, 1), TWO, TWO, 0), ((), TWO, TWO, 0), ((), ((3,), ()), TWO, 2), ((0, 3, 1), ((2, 2), ()), TWO, 0),
    ((0, 3, 1), ((2,), (2,)), TWO, 0), ((0, 3, 1), ((2,), ()), ((2,), ()), 0), (ROW, ((2,), ()), TWO, 0),
    ((3, 1), ((2, 0), ()), TWO, 1), ((3, 1), ((2,), ()), ((0,), ()), 1), ((1,), ((), ()), ((2,), (3,)), 2),
    ((0, 3, 1), ((4,), ()), TWO, 0), ((0, 3, 1), ((-1,), ()), TWO, 0), ((0, 3, 1), ((None,), ()), TWO, 0),
    ((0, 3, 1), (("2",), ()), TWO, 0), ((0, 3, 1), (((2,),), ()), TWO, 0), ((0, 3, 1), ((10 ** 30,), ()), TWO, 0),
    ((0, 3, True), ((2,), ()), TWO, 0), ((False, 3, 1), ((2,), ()), TWO, 0), ((), ((2, 3), (True,)), TWO, 1),
    ((), ((2, 3), ()), ((True,), ()), 1), ((), ((1, 2), ()), ((False, 3), ()), 0), ((), ((nest(16),), ()), TWO, 3),
    # What waits is not an end of the row.
    ((2,), ((0,), ()), ((3,), (1,)), 0), ((2, 0, 3), ((1,), ()), TWO, 0), ((3,), ((2, 0), (1,)), TWO, 0),
    ((1, 3), ((2, 0), ()), TWO, 0), ((0, 1, 2, 3), TWO, TWO, 0), ((1, 3, 0, 2), TWO, TWO, 0), ((2, 3, 1), TWO, TWO, 1),
    ((0, 3), ((2, 1), ()), TWO, 0), ((2, 0, 3, 1, 1), TWO, TWO, 0), ((0, 2, 0, 3, 1), TWO, TWO, 0),
)


class IsStandTest(unittest.TestCase):

    def test_true_for_stands(self):
        for stand in GOOD_STANDS:
            assert_same(self, is_stand(SQUARE, ROW, stand), True)
        assert_same(self, is_stand(yard=SQUARE, row=ROW, thing=GOOD_STANDS[0]), True)

    def test_false_for_others(self):
        for thing in BAD_STANDS:
            assert_same(self, is_stand(SQUARE, ROW, thing), False)

    def test_the_row_without_wagons(self):
        assert_same(self, is_stand(BARE, (), ((), ((),), ((),), 0)), True)
        assert_same(self, is_stand(BARE, (), ((), ((),), ((),), False)), False)
        assert_same(self, is_stand(BARE, (), ((), ((),), ((),), 1)), False)
        assert_same(self, is_stand(BARE, (), ((), ((0,),), ((),), 0)), False)
        assert_same(self, is_stand(BARE, (), ((), (), (), 0)), False)

    def test_a_yard_needs_no_tracks(self):
        assert_same(self, is_stand(BARE, (0,), ((), ((),), ((0,),), 0)), True)
        assert_same(self, is_stand((2, 3, ()), (0,), ((), TWO, ((), (), (0,)), 0)), True)
        assert_same(self, is_stand((2, 3, ()), (0,), ((), ((), (), ()), ((), (0,)), 0)), False)

    def test_four_hundred_wagons(self):
        lanes = ((),) * 11
        for row in (LONG, FALLEN):
            assert_same(self, is_stand(FULL, row, ((), (FALLEN,) + lanes, ((),) * 12, 0)), True)
            assert_same(self, is_stand(FULL, row, ((), ((),) * 12, lanes + (LONG,), 0)), True)
            assert_same(self, is_stand(FULL, row, ((), ((),) * 12, ((),) * 12, 400)), True)
            assert_same(self, is_stand(FULL, row, ((), (FALLEN[:399],) + lanes, ((),) * 12, 0)), False)
            assert_same(self, is_stand(FULL, row, ((), (FALLEN[:399],) + lanes, ((),) * 12, 1)), True)
        longer = LONG + (400,)
        assert_same(self, is_stand(FULL, longer, start(FULL, longer)), False)

    def test_just_the_stands_of_short_rows(self):
        yard = (2, 1, ())
        values = [(), (0,), (1,), (0, 1), (1, 0)]
        for row in permutations(range(2)):
            right = all_stands(yard, row)
            for waiting in values:
                for one in values:
                    for two in values:
                        for three in values:
                            for gone in (-1, 0, 1, 2, 3):
                                stand = (waiting, (one, two), (three,), gone)
                                assert_same(self, is_stand(yard, row, stand), stand in right)

    def test_all_stands_of_three_wagons(self):
        for row in permutations(range(3)):
            for stand in all_stands(SQUARE, row):
                assert_same(self, is_stand(SQUARE, row, stand), True)
                others = [other for other in permutations(range(3)) if other[3 - len(stand[0]):] != stand[0]]
                for other in others:
                    assert_same(self, is_stand(SQUARE, other, stand), False)

    def test_some_stands_of_longer_rows_and_others_nearby(self):
        dice = dice_of(41)
        for _ in range(200):
            yard = some_yard(dice, 4)
            row = some_row(dice, 12)
            waiting, firsts, seconds, gone = some_stand(dice, yard, row)
            assert_same(self, is_stand(yard, row, (waiting, firsts, seconds, gone)), True)
            assert_same(self, is_stand(yard, row, (waiting, firsts, seconds, gone + 1)), False)
            assert_same(self, is_stand(yard, row, (waiting, firsts, seconds, gone - 1)), False)
            assert_same(self, is_stand(yard, row, (waiting, firsts + ((),), seconds, gone)), False)
            assert_same(self, is_stand(yard, row, (waiting, firsts, seconds[1:], gone)), False)
            assert_same(self, is_stand(yard, row + (len(row),), (waiting, firsts, seconds, gone)), False)
            if waiting:
                assert_same(self, is_stand(yard, row, (waiting[1:], firsts, seconds, gone)), False)
            if len(waiting) > 1:
                behind = (firsts[0] + waiting[-1:],) + firsts[1:]
                assert_same(self, is_stand(yard, row, (waiting[:-1], behind, seconds, gone)), False)

    def test_wrong_yards_and_rows_give_false(self):
        for thing, _ in BAD_YARDS:
            assert_same(self, is_stand(thing, (), ((), TWO, TWO, 0)), False)
            assert_same(self, is_stand(thing, (), ((), ((),), ((),), 0)), False)
        for thing, _ in BAD_ROWS:
            assert_same(self, is_stand(SQUARE, thing, ((), TWO, TWO, 0)), False)
            assert_same(self, is_stand(SQUARE, thing, (thing, TWO, TWO, 0)), False)

    def test_it_only_judges(self):
        assert_judges(self, is_stand, [(SQUARE, ROW, stand) for stand in GOOD_STANDS[:3]] + [(BARE, (), None)])
        for at in range(4):
            for value in ODD_VALUES + LISTS:
                stand = GOOD_STANDS[1][:at] + (value,) + GOOD_STANDS[1][at + 1:]
                self.assertIn(repr(is_stand(SQUARE, ROW, stand)), ("True", "False"))


class BegunTest(unittest.TestCase):

    def test_the_example(self):
        assert_same(self, begun(SQUARE, (1, 0)), ((1, 0), ((), ()), ((), ()), 0))

    def test_all_wagons_wait(self):
        for yard in (SQUARE, BARE, FULL, (2, 3, ())):
            for row in ((), (0,), ROW, LONG, FALLEN):
                assert_same(self, begun(yard, row), start(yard, row))
                assert_same(self, is_stand(yard, row, begun(yard, row)), True)
        assert_same(self, begun(yard=(1, 2, ()), row=(0,)), ((0,), ((),), ((), ()), 0))

    def test_bad_yards_and_then_rows(self):
        for thing, what in BAD_YARDS:
            assert_refused(self, BadYard, what, begun, thing, None)
        for thing, what in BAD_ROWS:
            assert_refused(self, BadRow, what, begun, SQUARE, thing)


class AllHomeTest(unittest.TestCase):

    def test_nothing_waits_and_nothing_lies_in_a_lane(self):
        for row in permutations(range(3)):
            for stand in all_stands(SQUARE, row):
                assert_same(self, all_home(stand), stand[3] == 3)

    def test_edges(self):
        assert_same(self, all_home(((), ((),), ((),), 0)), True)
        assert_same(self, all_home(((), ((),) * 12, ((),) * 12, 400)), True)
        assert_same(self, all_home(((399,), ((),) * 12, ((),) * 12, 399)), False)
        assert_same(self, all_home(((), ((),) * 11 + ((399,),), ((),) * 12, 399)), False)
        assert_same(self, all_home(((), ((),) * 12, ((),) * 11 + ((399,),), 399)), False)
        assert_same(self, all_home(stand=start(SQUARE, ROW)), False)


if __name__ == "__main__":
    unittest.main()
