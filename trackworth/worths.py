"""What one track more or less is worth."""

from trackworth.errors import BadLane, BadTrack
from trackworth.figures import within
from trackworth.forests import worth
from trackworth.webs import pieces, rank
from trackworth.yards import all_tracks, made_yard


def adds(yard, a, b):
    """Tell whether a track between first lane a and second lane b would raise the worth."""
    firsts, seconds, _ = made_yard(yard)
    if not within(a, 0, firsts - 1):
        raise BadLane(a)
    if not within(b, 0, seconds - 1):
        raise BadLane(b)
    # The worth rises exactly if the two lanes do not hang together yet.
    return not any(a in lot and firsts + b in lot for lot in pieces(yard, all_tracks(yard)))


def counts(yard, track):
    """Tell whether the worth is less without the track."""
    everything = all_tracks(yard)
    if not within(track, 0, len(everything) - 1):
        raise BadTrack(track)
    return rank(yard, everything[:track] + everything[track + 1:]) < worth(yard)
