"""Mirror dealings, and trains one behind another: points [10] and [10.1]."""

import unittest
from itertools import permutations

from trackworth.errors import BadDealing, BadRow, BadYard
from trackworth.falls import falls
from trackworth.kernel import order_right
from trackworth.mirror import mirror_dealing
from trackworth.plans import plan
from trackworth.rows import joined, places
from trackworth.waits import order
from trackworth.yards import all_tracks, mirrored
from tests.support import (
    BARE, FULL, SQUARE, assert_refused, assert_same, complete, dice_of, some_dealing, some_row, some_yard,
)
from tests.test_dealings import BAD_DEALINGS, ROW
from tests.test_plans import row_of_falls
from tests.test_rows import BAD_ROWS, FALLEN, LONG
from tests.test_waits import moves_lead_out, short_cases, some_cases, waits_by_rule
from tests.test_yards import BAD_YARDS


def mirror_by_rule(yard, row, dealing):
    """The mirror dealing, lane by lane: the wagon at place w has the turned track of wagon w."""
    turned = sorted((b, a) for a, b in yard[2])
    found = []
    for w in range(len(row)):
        a, b = yard[2][dealing[row.index(w)]]
        found.append(turned.index((b, a)))
    return tuple(found)


def middle_orders(yard, row, dealing):
    """All middle orders of a short row, by trying all orders."""
    waits = waits_by_rule(yard, row, dealing)
    return [told for told in permutations(row) if all(told.index(y) < told.index(x) for x in row for y in waits[x])]


class MirrorDealingTest(unittest.TestCase):

    def test_the_example(self):
        assert_same(self, mirror_dealing(SQUARE, (1, 2, 0), (1, 1, 2)), (1, 2, 2))
        assert_same(self, mirror_dealing(yard=SQUARE, row=(1, 2, 0), dealing=(1, 1, 2)), (1, 2, 2))

    def test_a_yard_with_lanes_of_unlike_number(self):
        yard = (2, 3, ((0, 0), (0, 2), (1, 0), (1, 1)))
        # The mirror tracks are 0, 3, 1 and 2.
        assert_same(self, mirror_dealing(yard, (0, 1, 2, 3), (0, 1, 2, 3)), (0, 3, 1, 2))
        assert_same(self, mirror_dealing(yard, (3, 2, 1, 0), (0, 1, 2, 3)), (2, 1, 3, 0))
        assert_same(self, mirror_dealing(yard, (2, 0, 1), (1, 2, 3)), (1, 2, 3))

    def test_edges(self):
        for yard in (BARE, SQUARE, FULL):
            assert_same(self, mirror_dealing(yard, (), ()), ())
        assert_same(self, mirror_dealing((1, 1, ((0, 0),)), (0,), (0,)), (0,))
        assert_same(self, mirror_dealing(SQUARE, (0,), (1,)), (2,))
        assert_same(self, mirror_dealing(SQUARE, LONG, (1,) * 400), (2,) * 400)
        dealing = LONG[:60] * 6 + LONG[:40]
        assert_same(self, mirror_dealing(FULL, FALLEN, dealing), mirror_by_rule(FULL, FALLEN, dealing))

    def test_many_dealings_by_the_rule(self):
        for yard, row, dealing in some_cases(94, 300, 12):
            assert_same(self, mirror_dealing(yard, row, dealing), mirror_by_rule(yard, row, dealing))

    def test_the_mirror_of_the_mirror_is_the_dealing(self):
        for yard, row, dealing in some_cases(95, 150, 12):
            found = mirror_dealing(yard, row, dealing)
            assert_same(self, mirror_dealing(mirrored(yard), places(row), found), dealing)

    def test_a_dealing_works_exactly_if_its_mirror_dealing_works(self):
        counted = []
        for yard, row, dealing in short_cases()[::7] + some_cases(96, 150, 5):
            works = moves_lead_out(yard, row, dealing)
            turned = (mirrored(yard), places(row), mirror_dealing(yard, row, dealing))
            self.assertEqual(moves_lead_out(*turned), works)
            self.assertEqual(order(*turned) is not None, works)
            counted.append(works)
        self.assertGreater(counted.count(False), 50)
        self.assertGreater(counted.count(True), 50)

    def test_longer_rows_work_exactly_if_their_mirrors_do(self):
        for yard, row, dealing in some_cases(97, 300, 20):
            turned = (mirrored(yard), places(row), mirror_dealing(yard, row, dealing))
            self.assertEqual(order(*turned) is None, order(yard, row, dealing) is None)

    def test_each_middle_order_told_by_places_keeps_the_waits_of_the_mirror(self):
        kept = 0
        for yard, row, dealing in short_cases()[::11] + some_cases(98, 100, 5):
            at = places(row)
            turned = (mirrored(yard), at, mirror_dealing(yard, row, dealing))
            told = [tuple(at[wagon] for wagon in way) for way in middle_orders(yard, row, dealing)]
            self.assertEqual(sorted(told), sorted(middle_orders(*turned)))
            for way in told:
                assert_same(self, order_right(*turned, way), True)
            kept += len(told)
        self.assertGreater(kept, 100)

    def test_plans_of_four_hundred_wagons(self):
        row = row_of_falls(400, 16)
        dealing = plan(FULL, all_tracks(FULL), row)
        at = places(row)
        told = tuple(at[wagon] for wagon in order(FULL, row, dealing))
        assert_same(self, order_right(mirrored(FULL), at, mirror_dealing(FULL, row, dealing), told), True)

    def test_bad_yards_then_rows_then_dealings(self):
        for thing, what in BAD_YARDS:
            assert_refused(self, BadYard, what, mirror_dealing, thing, None, None)
        for thing, what in BAD_ROWS:
            assert_refused(self, BadRow, what, mirror_dealing, SQUARE, thing, None)
        for thing, what in BAD_DEALINGS:
            assert_refused(self, BadDealing, what, mirror_dealing, SQUARE, ROW, thing)
        assert_refused(self, BadDealing, 0, mirror_dealing, BARE, (0,), (0,))


class JoinedTest(unittest.TestCase):

    def test_falls_of_joined_rows(self):
        for many in range(5):
            for one in permutations(range(many)):
                for two in ((), (0,), (1, 0), (0, 1), (2, 1, 0), (1, 2, 0)):
                    self.assertEqual(falls(joined(one, two)), max(falls(one), falls(two)))

    def test_one_dealing_behind_the_other(self):
        dice = dice_of(99)
        worked = 0
        for _ in range(400):
            yard = some_yard(dice, 3)
            if yard[2]:
                one, two = some_row(dice, 4), some_row(dice, 4)
                first, second = some_dealing(dice, yard, one), some_dealing(dice, yard, two)
                works = moves_lead_out(yard, one, first) and moves_lead_out(yard, two, second)
                worked += works
                self.assertEqual(order(yard, joined(one, two), first + second) is not None, works)
                if works and len(one) + len(two) < 7:
                    self.assertTrue(moves_lead_out(yard, joined(one, two), first + second))
        self.assertGreater(worked, 50)

    def test_no_wagon_ahead_waits_for_one_behind(self):
        dice = dice_of(100)
        for _ in range(100):
            yard = complete(2, 3)
            one, two = some_row(dice, 6), some_row(dice, 6)
            dealing = some_dealing(dice, yard, one) + some_dealing(dice, yard, two)
            waits = waits_by_rule(yard, joined(one, two), dealing)
            for x in one:
                self.assertTrue(all(y < len(one) for y in waits[x]))

    def test_trains_of_two_hundred_wagons(self):
        row = row_of_falls(200, 16)
        dealing = plan(FULL, all_tracks(FULL), row)
        both = joined(row, row)
        self.assertEqual(falls(both), 16)
        self.assertIsNotNone(order(FULL, both, dealing + dealing))


if __name__ == "__main__":
    unittest.main()
