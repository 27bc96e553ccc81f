"""Printing trains."""

from trackworth.names import need_train


def print_train(row, wagons):
    """Return the text of a train: its wagons as they come, and as they leave."""
    need_train(row, wagons)
    coming = [wagons[wagon] for wagon in row]
    return " ".join(["train"] + coming) + "; " + " ".join(["home"] + list(wagons)) + ";"
