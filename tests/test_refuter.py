"""Reasons why a dealing does not work: point [8.1]."""

import unittest

from trackworth.badrows import bad_row
from trackworth.dealings import fallen
from trackworth.errors import BadDealing, BadRow, BadYard
from trackworth.kernel import refuted_right
from trackworth.plans import plan
from trackworth.refuter import refuted
from trackworth.waits import stuck
from trackworth.yards import all_tracks
from tests.support import (
    BARE, FULL, SQUARE, assert_refused, assert_same, dice_of, some_dealing, yard_of_ring,
)
from tests.test_dealings import BAD_DEALINGS, fallen_by_rule
from tests.test_plans import row_of_falls
from tests.test_rows import BAD_ROWS, FALLEN, LONG
from tests.test_stands import ROW
from tests.test_waits import (
    TOO_MUCH, TOO_MUCH_DEALT, moves_lead_out, short_cases, some_cases, stuck_by_rule, told_by_rule, waits_by_rule,
)
from tests.test_yards import BAD_YARDS


def refuted_by_rule(yard, row, dealing):
    """The reason of [8.1], from the rules of falls and of rings of waits."""
    if len(told_by_rule(waits_by_rule(yard, row, dealing))) == len(row):
        return None
    pair = fallen_by_rule(row, dealing)
    return ("ring", stuck_by_rule(yard, row, dealing)) if pair is None else ("fall", pair)


class RefutedTest(unittest.TestCase):

    def test_the_examples(self):
        assert_same(self, refuted(SQUARE, TOO_MUCH, TOO_MUCH_DEALT), ("ring", (2, 9, 7, 3)))
        assert_same(self, refuted(SQUARE, (1, 0), (2, 2)), ("fall", (1, 0)))
        assert_same(self, refuted(yard=SQUARE, row=(1, 0), dealing=(2, 2)), ("fall", (1, 0)))

    def test_dealings_that_work(self):
        assert_same(self, refuted(BARE, (), ()), None)
        assert_same(self, refuted(SQUARE, (0,), (3,)), None)
        assert_same(self, refuted(SQUARE, (3, 2, 1, 0), (0, 1, 2, 3)), None)
        assert_same(self, refuted(SQUARE, LONG, (0,) * 400), None)
        row = row_of_falls(400, 16)
        assert_same(self, refuted(FULL, row, plan(FULL, all_tracks(FULL), row)), None)

    def test_a_fall_comes_before_a_ring(self):
        assert_same(self, refuted(SQUARE, (3, 0, 1, 2), (0, 1, 3, 2)), ("ring", (0, 3, 2, 1)))
        # The same ring of waits, and behind it two wagons of one track that fall.
        assert_same(self, refuted(SQUARE, (3, 0, 1, 2, 5, 4), (0, 1, 3, 2, 0, 0)), ("fall", (5, 4)))
        assert_same(self, refuted(SQUARE, FALLEN, (0,) * 400), ("fall", (399, 398)))

    def test_all_dealings_of_short_rows(self):
        for yard, row, dealing in short_cases():
            self.check(yard, row, dealing)

    def test_longer_rows(self):
        for yard, row, dealing in some_cases(63, 300, 9) + some_cases(64, 20, 50):
            self.check(yard, row, dealing)

    def test_none_exactly_if_moves_lead_out(self):
        for yard, row, dealing in short_cases()[::11] + some_cases(65, 100, 5):
            assert_same(self, refuted(yard, row, dealing) is None, moves_lead_out(yard, row, dealing))

    def test_dealings_of_bad_rows(self):
        dice = dice_of(66)
        for yard in (SQUARE, (3, 2, ((0, 0), (0, 1), (1, 0), (1, 1), (2, 1))), yard_of_ring(6)):
            row = bad_row(yard, all_tracks(yard))
            for _ in range(30):
                self.check(yard, row, some_dealing(dice, yard, row))

    def check(self, yard, row, dealing):
        """The reason is that of the words, and the judge accepts it."""
        found = refuted(yard, row, dealing)
        assert_same(self, found, refuted_by_rule(yard, row, dealing))
        if found is not None:
            assert_same(self, refuted_right(yard, row, dealing, found), True)
        if found is not None and found[0] == "fall":
            assert_same(self, found[1], fallen(yard, row, dealing))
        elif found is not None:
            assert_same(self, found[1], stuck(yard, row, dealing))


class RefusalTest(unittest.TestCase):

    def test_yards_rows_and_then_dealings(self):
        for thing, what in BAD_YARDS:
            assert_refused(self, BadYard, what, refuted, thing, None, None)
        for thing, what in BAD_ROWS:
            assert_refused(self, BadRow, what, refuted, SQUARE, thing, None)
        for thing, what in BAD_DEALINGS:
            assert_refused(self, BadDealing, what, refuted, SQUARE, ROW, thing)


if __name__ == "__main__":
    unittest.main()
