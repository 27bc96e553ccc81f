"""Bad rows: rows that no dealing over a pick with a ring sorts, though it has a track for each fall."""

from trackworth.errors import TooMany
from trackworth.rings import ring
from trackworth.rows import MOST_WAGONS


def bad_row(yard, pick):
    """Return a row with as many falls as the pick has tracks that it cannot sort; None if it has no ring."""
    found = ring(yard, pick)
    if found is None:
        return None
    times = copies(len(pick), len(found))
    many = 0
    for copied in times:
        many = 1 + copied * many
    if many > MOST_WAGONS:
        raise TooMany(many)
    block = []
    for copied in times:
        block = raised(block, copied)
    return tuple(block)


def copies(many, length):
    """Return how often each block holds the one before it, the last and least block first."""
    return [length - 1 if j <= many - length else 1 for j in range(many - 1, -1, -1)]


def raised(block, copied):
    """Return one wagon that is greater than all others, and behind it copies of the block that rise."""
    row = [copied * len(block)]
    for at in range(copied):
        row.extend([at * len(block) + wagon for wagon in block])
    return row
