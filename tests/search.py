"""A full search over all dealings of a row, place by place, that keeps of them only what later wagons can meet."""


def can_be_dealt(yard, pick, row):
    """Whether some dealing over the tracks of the pick has no ring of waits."""
    states = {frozenset()}
    for place, wagon in enumerate(row):
        later = sorted(row[place + 1:])
        further = set()
        for state in states:
            for t in pick:
                found = dealt(state, wagon, yard[2][t], later)
                if found is not None:
                    further.add(found)
        states = further
    return bool(states)


def dealt(state, wagon, lanes, later):
    """The state with one more wagon; None if it closes a ring of waits.

    A wagon that is dealt still waits for a later one if it is greater and they come to have the same second lane. A
    state has each wagon for which there are lesser ones to come, with its second lane and with the lanes in which a
    later wagon would wait for it, perhaps through others: a first lane, or a second lane and from which number on.
    """
    first, second = ("first", lanes[0]), ("second", lanes[1])
    coming = {first: -1, second: wagon}
    waited = []
    for other, lane, ways in state:
        ways = dict(ways)
        reached = first in ways or ways.get(second, wagon) < wagon
        if reached:
            waited.append(other)
        if lane == second and other > wagon:
            if reached:
                return None
            add(coming, ways)
    found = [(wagon, second, coming)]
    for other, lane, ways in state:
        ways = dict(ways)
        if other in waited:
            add(ways, coming)
        found.append((other, lane, ways))
    return frozenset(
        (other, lane, shortened(ways, later)) for other, lane, ways in found if later and later[0] < other
    )


def add(ways, further):
    """Put further ways to the ways, of each lane the one for the lesser number."""
    for lane, number in further.items():
        ways[lane] = min(number, ways.get(lane, number))


def shortened(ways, later):
    """The ways as far as later wagons can take them, the same for all numbers between the same later wagons."""
    found = []
    for lane, number in ways.items():
        greater = [wagon for wagon in later if wagon > number]
        if lane[0] == "first":
            found.append((lane, -1))
        elif greater:
            found.append((lane, greater[0] - 1))
    return tuple(sorted(found))
