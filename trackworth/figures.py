"""Numbers, as the document understands them."""


def within(thing, low, high):
    """Tell whether the thing is a number from low to high."""
    # Python counts True and False among the ints; this package does not.
    return isinstance(thing, int) and not isinstance(thing, bool) and low <= thing <= high
