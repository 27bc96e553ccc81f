"""A search for any dealing that works, also of rows with more falls than the yard is worth."""

from trackworth.errors import TooMany
from trackworth.falls import falls
from trackworth.forests import worth
from trackworth.plans import plan
from trackworth.rows import made_row
from trackworth.yards import all_tracks, made_yard

LONGEST_ROW = 8
MOST_SEARCHED = 6


def some_dealing(yard, row):
    """Return a dealing that works, over all tracks of the yard; None if there is none."""
    many = len(made_yard(yard)[2])
    made_row(row)
    if len(row) > LONGEST_ROW:
        raise TooMany(len(row))
    # Falling wagons need a track each.
    if falls(row) > many:
        return None
    if falls(row) <= worth(yard):
        return plan(yard, all_tracks(yard), row)
    if many > MOST_SEARCHED:
        raise TooMany(many)
    return completed(yard, row, ())


def completed(yard, row, dealt):
    """Return a dealing that works and begins with the tracks dealt; None if there is none."""
    if len(dealt) == len(row):
        return dealt
    for t in all_tracks(yard):
        longer = dealt + (t,)
        # Further wagons do not undo a ring of waits.
        found = completed(yard, row, longer) if stays_free(yard, row, longer) else None
        if found is not None:
            return found
    return None


def stays_free(yard, row, dealt):
    """Tell whether the wagon at the last place that is dealt is in no ring of waits of the wagons dealt."""
    lanes = [yard[2][t] for t in dealt]
    last = len(dealt) - 1
    waited = []
    left = [last]
    while left:
        x = left.pop()
        for y in range(len(dealt)):
            if y not in waited and waits(row, lanes, x, y):
                waited.append(y)
                left.append(y)
    return last not in waited


def waits(row, lanes, x, y):
    """Tell whether the wagon at place x waits for the one at place y."""
    if lanes[x][0] == lanes[y][0] and y < x:
        return True
    return lanes[x][1] == lanes[y][1] and row[y] < row[x]
