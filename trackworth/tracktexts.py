"""Lanes and tracks by the names of the lanes."""

from trackworth.errors import NoName, NoTrack


def lane_from(reader, names):
    """Take the name of a lane, and return which one of these it is."""
    name = reader.name()
    if name not in names:
        raise NoName(reader.last())
    return names.index(name)


def track_from(reader, named):
    """Take the names of the lanes of a track, and return the number of the track."""
    firsts, seconds = named[1]
    a = lane_from(reader, firsts)
    reader.take("-")
    b = lane_from(reader, seconds)
    tracks = named[0][2]
    if (a, b) not in tracks:
        raise NoTrack(reader.last())
    return tracks.index((a, b))


def track_text(named, t):
    """Return the names of the lanes of a track."""
    firsts, seconds = named[1]
    a, b = named[0][2][t]
    return firsts[a] + " - " + seconds[b]


def tracks_text(named, tracks):
    """Return the names of the lanes of all these tracks."""
    return "; ".join([track_text(named, t) for t in tracks])
