"""Prices and cheapest picks: points [9.1] and [9.2]."""

import unittest

from trackworth.errors import BadNumber, BadPrices, BadYard
from trackworth.forests import forest, worth
from trackworth.kernel import cheapest_right
from trackworth.prices import cheapest, made_prices
from trackworth.rings import serves
from trackworth.webs import rank
from trackworth.yards import all_tracks
from tests.support import (
    BARE, FULL, LISTS, ODD_VALUES, SQUARE, all_picks, assert_refused, assert_same, complete, dice_of, nest, some_yard,
    yard_of_ring,
)
from tests.test_rings import rings_of
from tests.test_yards import BAD_YARDS

# No prices of the yard SQUARE, each with what made_prices says of it.
BAD_PRICES = (
    (None, -1), (True, -1), (False, -1), (0, -1), (4, -1), ("", -1), ("1111", -1), ([], -1), ([1, 1, 1, 1], -1),
    ((), -1), ((1, 1, 1), -1), ((1, 1, 1, 1, 1), -1), ((-1,), -1), ((None,) * 5, -1), (nest(20), -1),
    ((1000, 1, 1, 1), 0), ((1, 1, 1, 1000), 3), ((1, 1001, -1, 1), 1), ((1, -1, 1, 1), 1), ((1, 1, 10 ** 30, 1), 2),
    ((True, 1, 1, 1), 0), ((1, False, 1, 1), 1), ((1, 1, True, 1000), 2), ((1, 1, 1, None), 3), ((1, "1", 1, 1), 1),
    ((1, 1, (1,), 1), 2), (((), (), (), ()), 0), ((1, [1], 1, 1), 1), ((1, 1, 1, nest(18)), 3), ((-1, -1, -1, -1), 0),
)

WRONG_NUMBERS = (-1, 61, 62, 10 ** 30, -10 ** 30, True, False, None, "3", "", (), (3,), [3])


def some_prices(dice, yard, most):
    """Any prices of the yard."""
    return tuple(dice.randint(0, most) for _ in yard[2])


def cheapest_by_rule(yard, prices, m):
    """The pick of [9.1], track by track, from all rings."""
    taken = ()
    for price in sorted(set(prices)):
        for t in all_tracks(yard):
            if prices[t] == price and len(taken) < m:
                further = tuple(sorted(taken + (t,)))
                taken = taken if rings_of(yard, further) else further
    return taken if len(taken) == m else None


class MadePricesTest(unittest.TestCase):

    def test_prices_are_returned(self):
        for yard, prices in (
            (SQUARE, (5, 1, 1, 1)), (SQUARE, (0, 0, 0, 0)), (SQUARE, (999, 0, 999, 998)), (BARE, ()),
            (FULL, tuple(range(60))), (FULL, (999,) * 60), ((1, 1, ((0, 0),)), (0,)),
        ):
            assert_same(self, made_prices(yard, prices), prices)
        assert_same(self, made_prices(yard=SQUARE, thing=(1, 2, 3, 4)), (1, 2, 3, 4))

    def test_the_first_bad_price_is_told(self):
        for thing, what in BAD_PRICES:
            assert_refused(self, BadPrices, what, made_prices, SQUARE, thing)
        assert_refused(self, BadPrices, -1, made_prices, BARE, (0,))
        assert_refused(self, BadPrices, -1, made_prices, BARE, None)
        assert_refused(self, BadPrices, 59, made_prices, FULL, (999,) * 59 + (1000,))

    def test_odd_values_are_taken_or_refused(self):
        for value in ODD_VALUES + LISTS:
            for yard in (BARE, SQUARE, (1, 1, ((0, 0),)), (1, 2, ((0, 0), (0, 1)))):
                try:
                    assert_same(self, made_prices(yard, value), value)
                except BadPrices as error:
                    self.assertIs(type(error.what), int)

    def test_bad_yards_come_first(self):
        for thing, what in BAD_YARDS:
            assert_refused(self, BadYard, what, made_prices, thing, None)


class CheapestTest(unittest.TestCase):

    def test_the_example(self):
        assert_same(self, cheapest(SQUARE, (5, 1, 1, 1), 3), (1, 2, 3))
        assert_same(self, cheapest(SQUARE, (5, 1, 1, 1), 2), (1, 2))
        assert_same(self, cheapest(SQUARE, (5, 1, 1, 1), 4), None)
        assert_same(self, cheapest(yard=SQUARE, prices=(5, 1, 1, 1), m=1), (1,))

    def test_no_tracks(self):
        for yard in (BARE, SQUARE, FULL):
            assert_same(self, cheapest(yard, (999,) * len(yard[2]), 0), ())
        assert_same(self, cheapest(BARE, (), 1), None)
        assert_same(self, cheapest(BARE, (), 60), None)

    def test_equal_prices_go_by_number(self):
        for price in (0, 7, 999):
            for m in range(4):
                assert_same(self, cheapest(SQUARE, (price,) * 4, m), (0, 1, 2)[:m])
            assert_same(self, cheapest(FULL, (price,) * 60, 16), forest(FULL, all_tracks(FULL)))
        assert_same(self, cheapest(SQUARE, (2, 1, 2, 1), 3), (0, 1, 3))
        assert_same(self, cheapest(SQUARE, (1, 1, 0, 1), 2), (0, 2))

    def test_dear_tracks_that_are_in_no_ring(self):
        yard = (3, 3, SQUARE[2] + ((2, 2),))
        assert_same(self, cheapest(yard, (0, 1, 2, 3, 999), 4), (0, 1, 2, 4))
        assert_same(self, cheapest(yard, (0, 1, 2, 3, 999), 3), (0, 1, 2))
        assert_same(self, cheapest(yard, (3, 2, 1, 0, 0), 3), (2, 3, 4))
        assert_same(self, cheapest(yard, (999, 999, 999, 0, 0), 5), None)

    def test_of_a_ring_the_dearest_track_is_left_out(self):
        for many in range(4, 26, 2):
            yard = yard_of_ring(many)
            tracks = all_tracks(yard)
            for t in tracks:
                prices = (3,) * t + (4,) + (3,) * (many - 1 - t)
                assert_same(self, cheapest(yard, prices, many - 1), tracks[:t] + tracks[t + 1:])
                assert_same(self, cheapest(yard, prices, many), None)

    def test_numbers_from_zero_to_sixty(self):
        dice = dice_of(73)
        prices = some_prices(dice, FULL, 999)
        self.assertEqual(worth(FULL), 16)
        for m in range(61):
            found = cheapest(FULL, prices, m)
            if m > 16:
                assert_same(self, found, None)
            else:
                self.assertEqual(len(found), m)
                assert_same(self, cheapest_right(FULL, prices, m, found), True)

    def test_picks_by_the_rule(self):
        dice = dice_of(74)
        for at in range(150):
            yard = complete(2, 3) if at < 20 else some_yard(dice, 4, 10)
            prices = some_prices(dice, yard, dice.choice((0, 1, 3, 999)))
            for m in range(worth(yard) + 3):
                assert_same(self, cheapest(yard, prices, m), cheapest_by_rule(yard, prices, m))

    def test_no_pick_of_this_rank_costs_less(self):
        dice = dice_of(75)
        for at in range(60):
            yard = SQUARE if at < 10 else some_yard(dice, 4, 8)
            prices = some_prices(dice, yard, dice.choice((1, 4, 999)))
            ranks = {pick: rank(yard, pick) for pick in all_picks(yard)}
            for m in range(worth(yard) + 1):
                found = cheapest(yard, prices, m)
                assert_same(self, serves(yard, found), True)
                assert_same(self, cheapest_right(yard, prices, m, found), True)
                least = min(sum(prices[t] for t in pick) for pick in ranks if ranks[pick] >= m)
                self.assertEqual(sum(prices[t] for t in found), least)
            assert_same(self, cheapest(yard, prices, worth(yard) + 1), None)


class RefusalTest(unittest.TestCase):

    def test_yards_then_prices_then_numbers(self):
        for thing, what in BAD_YARDS:
            assert_refused(self, BadYard, what, cheapest, thing, None, None)
        for thing, what in BAD_PRICES:
            assert_refused(self, BadPrices, what, cheapest, SQUARE, thing, None)
            assert_refused(self, BadPrices, what, cheapest, SQUARE, thing, 3)
        for m in WRONG_NUMBERS:
            assert_refused(self, BadNumber, m, cheapest, SQUARE, (5, 1, 1, 1), m)
            assert_refused(self, BadNumber, m, cheapest, BARE, (), m)


if __name__ == "__main__":
    unittest.main()
