"""Names of lanes, wagons, hands and trains."""

LONGEST_NAME = 12
LETTERS = "abcdefghijklmnopqrstuvwxyz"
FIGURES = "0123456789"
KEPT_WORDS = (
    "first", "second", "track", "price", "train", "home", "by", "in", "over", "out", "none", "shut", "free", "undo",
    "redo", "put", "drop", "worth", "serves", "plan", "moves", "bad", "check", "cheapest", "counts",
)


def is_name(thing):
    """Tell whether the thing is a name."""
    if not isinstance(thing, str) or not 1 <= len(thing) <= LONGEST_NAME or thing in KEPT_WORDS:
        return False
    # The methods of texts would take letters and figures of other scripts, too.
    return thing[0] in LETTERS and all(sign in LETTERS or sign in FIGURES for sign in thing)
