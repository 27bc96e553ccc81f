"""Named yards, and the names of the wagons of a row."""

from trackworth.errors import BadNamed, BadNames, BadPrices, BadYard
from trackworth.prices import made_prices
from trackworth.rows import made_row
from trackworth.words import is_name
from trackworth.yards import made_yard


def made_named(thing):
    """Return the named yard; raise an error if the thing is none."""
    if not isinstance(thing, tuple) or len(thing) != 3:
        raise BadNamed(-1)
    yard = made_yard(thing[0])
    names = thing[1]
    if not isinstance(names, tuple) or len(names) != 2 or not are_names(names[0], yard[0]):
        raise BadNamed(0)
    if not are_names(names[1], yard[1]) or any(name in names[0] for name in names[1]):
        raise BadNamed(1)
    return (yard, (tuple(list(names[0])), tuple(list(names[1]))), made_prices(yard, thing[2]))


def is_named(thing):
    """Tell whether the thing is a named yard."""
    try:
        made_named(thing)
    except (BadNamed, BadYard, BadPrices):
        return False
    return True


def are_names(thing, many):
    """Tell whether the thing is a tuple of so many different names."""
    if not isinstance(thing, tuple) or len(thing) != many or not all(is_name(name) for name in thing):
        return False
    return len(set(thing)) == many


def need_train(row, wagons):
    """Raise what made_row raises, then BadNames if the second argument does not name the wagons of the row."""
    made_row(row)
    if not are_names(wagons, len(row)):
        raise BadNames(0)
