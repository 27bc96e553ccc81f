"""Numbers, as the document understands them."""


def is_number(thing):
    """Tell whether the thing is a number."""
    # Python counts True and False among the ints; this package does not.
    return isinstance(thing, int) and not isinstance(thing, bool)


def within(thing, low, high):
    """Tell whether the thing is a number from low to high."""
    return is_number(thing) and low <= thing <= high
