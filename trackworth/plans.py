"""Plans: dealings that sort a row by its layers, over a forest of tracks."""

from trackworth.falls import falls, layers
from trackworth.forests import forest


def plan(yard, pick, row):
    """Return the dealing that gives each layer of the row a track of the forest; None if there are too few."""
    tracks = forest(yard, pick)
    if falls(row) > len(tracks):
        return None
    return tuple([tracks[layer] for layer in layers(row)])
