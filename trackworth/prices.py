"""Prices of tracks, and the cheapest picks without a ring."""

from trackworth.errors import BadNumber, BadPrices
from trackworth.figures import within
from trackworth.forests import ringless
from trackworth.yards import MOST_TRACKS, all_tracks, made_yard

HIGHEST_PRICE = 999


def made_prices(yard, thing):
    """Return the prices; raise BadPrices if the thing is not a price for each track of the yard."""
    tracks = made_yard(yard)[2]
    if not isinstance(thing, tuple) or len(thing) != len(tracks):
        raise BadPrices(-1)
    for t, price in enumerate(thing):
        if not within(price, 0, HIGHEST_PRICE):
            raise BadPrices(t)
    return tuple(list(thing))


def cheapest(yard, prices, m):
    """Return a pick of m tracks without a ring whose price is least; None if the yard is worth less than m."""
    made_prices(yard, prices)
    if not within(m, 0, MOST_TRACKS):
        raise BadNumber(m)
    return cheapest_of(yard, prices, all_tracks(yard), m)


def cheapest_of(yard, prices, pick, m):
    """Return the cheapest m tracks of the pick without a ring; None if its rank is below m."""
    ranked = sorted([(prices[t], t) for t in pick])
    taken = ringless(yard, [t for _, t in ranked])
    if len(taken) < m:
        return None
    return tuple(sorted(taken[:m]))
