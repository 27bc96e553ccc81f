"""Layers and falls of a row: how many of its wagons stand the wrong way round, each two of them."""

from trackworth.errors import BadRow
from trackworth.figures import within
from trackworth.rows import made_row, places


def layers(row):
    """Return for each place the greatest number of falling wagons that end there, less one."""
    made_row(row)
    found = []
    # The wagons of a layer rise, so the last one of each layer is its greatest; and each layer's is less than
    # that of the layer before, so those that are greater than a wagon belong to the layers below its own.
    tops = []
    for wagon in row:
        layer = len([top for top in tops if top > wagon])
        if layer == len(tops):
            tops.append(wagon)
        else:
            tops[layer] = wagon
        found.append(layer)
    return tuple(found)


def falls(row):
    """Return the greatest number of falling wagons of the row."""
    return max(layers(row), default=-1) + 1


def falling(row):
    """Return as many falling wagons as the row has falls, in the order of the row."""
    heights = layers(row)
    if len(row) == 0:
        return ()
    layer = max(heights)
    last = heights.index(layer)
    found = [row[last]]
    for place in range(last - 1, -1, -1):
        if heights[place] == layer - 1 and row[place] > found[-1]:
            found.append(row[place])
            layer = layer - 1
    return tuple(found[::-1])


def falling_right(row, thing):
    """Judge whether the thing is a tuple of falling wagons of the row, in its order."""
    try:
        made_row(row)
    except BadRow:
        return False
    if not isinstance(thing, tuple) or not all(within(wagon, 0, len(row) - 1) for wagon in thing):
        return False
    at = places(row)
    return all(at[x] < at[y] and x > y for x, y in zip(thing, thing[1:]))
