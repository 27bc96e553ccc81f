"""Judges of what the other modules return.

Nothing is imported here: the answers must not depend on the other modules being right, so this file looks at the
forms of all arguments, and finds lanes, waits and rings, by itself.
"""

MOST_LANES = 12
MOST_TRACKS = 60
MOST_WAGONS = 400
HIGHEST_PRICE = 999


def order_right(yard, row, dealing, thing):
    """Judge whether the thing is a middle order of the dealing."""
    if not deals(yard, row, dealing) or not names_wagons(row, thing) or len(thing) != len(row):
        return False
    lanes = lanes_of(yard, row, dealing)
    lasts = {}
    # The waits within a lane ask for just one order of its wagons: by their places, or by their numbers.
    for wagon in thing:
        a, b = lanes[wagon]
        place = row.index(wagon)
        if lasts.get(("first", a), -1) > place or lasts.get(("second", b), -1) > wagon:
            return False
        lasts[("first", a)] = place
        lasts[("second", b)] = wagon
    return True


def stuck_right(yard, row, dealing, thing):
    """Judge whether the thing is a ring of waits of the dealing."""
    if not deals(yard, row, dealing) or not names_wagons(row, thing) or len(thing) < 2:
        return False
    lanes = lanes_of(yard, row, dealing)
    return all(waits(row, lanes, x, y) for x, y in zip(thing, thing[1:] + thing[:1]))


def refuted_right(yard, row, dealing, thing):
    """Judge whether the thing is a reason why the dealing does not work."""
    if not deals(yard, row, dealing) or not isinstance(thing, tuple) or len(thing) != 2:
        return False
    kind, wagons = thing
    if kind == "ring":
        return stuck_right(yard, row, dealing, wagons)
    if kind != "fall" or not names_wagons(row, wagons) or len(wagons) != 2:
        return False
    x, y = wagons
    ahead = row.index(x)
    behind = row.index(y)
    return dealing[ahead] == dealing[behind] and ahead < behind and x > y


def cheapest_right(yard, prices, m, pick):
    """Judge whether the pick has m tracks, no ring, and the least price of all such picks."""
    if not joins(yard) or not prices_tracks(yard, prices) or not number(m, 0, MOST_TRACKS):
        return False
    if not picks_tracks(yard, pick) or len(pick) != m:
        return False
    tracks = yard[2]
    # A ring shows at its last track, at the latest; what is ahead of the first such track has no ring.
    for at, t in enumerate(pick):
        if way_round(tracks, pick[:at], t) is not None:
            return False
    others = [t for t in range(len(tracks)) if t not in pick]
    return all(dear_enough(tracks, prices, pick, t) for t in others)


def number(thing, low, high):
    """Tell whether the thing is a number from low to high."""
    if isinstance(thing, bool) or not isinstance(thing, int):
        return False
    return low <= thing <= high


def joins(yard):
    """Tell whether the argument is a yard."""
    if not isinstance(yard, tuple) or len(yard) != 3:
        return False
    firsts, seconds, tracks = yard
    if not number(firsts, 1, MOST_LANES) or not number(seconds, 1, MOST_LANES):
        return False
    if not isinstance(tracks, tuple) or len(tracks) > MOST_TRACKS:
        return False
    for pair in tracks:
        if not isinstance(pair, tuple) or len(pair) != 2:
            return False
        if not number(pair[0], 0, firsts - 1) or not number(pair[1], 0, seconds - 1):
            return False
    return all(one < two for one, two in zip(tracks, tracks[1:]))


def runs(row):
    """Tell whether the argument is a row."""
    return isinstance(row, tuple) and len(row) <= MOST_WAGONS and names_wagons(row, row)


def names_wagons(row, thing):
    """Tell whether the thing is a tuple of different wagons, as a row of this length has them."""
    if not isinstance(thing, tuple) or not all(number(wagon, 0, len(row) - 1) for wagon in thing):
        return False
    return len(set(thing)) == len(thing)


def deals(yard, row, dealing):
    """Tell whether the arguments are a yard, a row and a dealing of them."""
    if not joins(yard) or not runs(row) or not isinstance(dealing, tuple) or len(dealing) != len(row):
        return False
    return all(number(t, 0, len(yard[2]) - 1) for t in dealing)


def prices_tracks(yard, prices):
    """Tell whether the second argument has a price for each track of the yard."""
    if not isinstance(prices, tuple) or len(prices) != len(yard[2]):
        return False
    return all(number(price, 0, HIGHEST_PRICE) for price in prices)


def picks_tracks(yard, pick):
    """Tell whether the second argument is a pick of tracks of the yard."""
    if not isinstance(pick, tuple) or not all(number(t, 0, len(yard[2]) - 1) for t in pick):
        return False
    return all(one < two for one, two in zip(pick, pick[1:]))


def lanes_of(yard, row, dealing):
    """Return the first lane and the second lane of each wagon."""
    return {wagon: yard[2][t] for wagon, t in zip(row, dealing)}


def waits(row, lanes, x, y):
    """Tell whether wagon x waits for wagon y."""
    if lanes[x][0] == lanes[y][0] and row.index(y) < row.index(x):
        return True
    return lanes[x][1] == lanes[y][1] and y < x


def way_round(tracks, pick, t):
    """Return the tracks that close a ring with track t, of a pick without a ring; None if there are none."""
    a, b = tracks[t]
    ways = {("first", a): ()}
    lanes = [("first", a)]
    while lanes:
        found = []
        for lane in lanes:
            for taken, other in doors(tracks, pick, lane):
                if other not in ways:
                    ways[other] = ways[lane] + (taken,)
                    found.append(other)
        lanes = found
    return ways.get(("second", b))


def doors(tracks, pick, lane):
    """Return the tracks of the pick at a lane, each with the lane at its other end."""
    sort, at = lane
    if sort == "first":
        return [(t, ("second", tracks[t][1])) for t in pick if tracks[t][0] == at]
    return [(t, ("first", tracks[t][0])) for t in pick if tracks[t][1] == at]


def dear_enough(tracks, prices, pick, t):
    """Tell whether no track of the pick that could make place for track t is dearer than it."""
    ring = way_round(tracks, pick, t)
    leaving = pick if ring is None else ring
    return all(prices[u] <= prices[t] for u in leaving)
