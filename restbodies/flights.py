"""Flights: all bodies of a world go straight for a span, and no two of them meet below it."""

from restbodies.errors import Early
from restbodies.rows import pairs
from restbodies.shares import least
from restbodies.spots import is_way
from restbodies.times import first, is_clear


def pair_papers(rows, span):
    """(name, name, paper) for each two bodies that aren't both walls, the papers as first tells them."""
    return [(one[0], other[0], first(one, other, span)) for one, other in pairs(rows)]


def earliest(papers):
    """The least time at which two meet, by what pair_papers tells, or None."""
    found = [paper[1] for low, high, paper in papers if paper[0] == "meets"]
    if len(found) == 0:
        return None
    return least(found)


def next_time(rows, span):
    """The least time below span at which two of the bodies meet, or None."""
    return earliest(pair_papers(rows, span))


def flight(rows, span):
    """The paper of a flight: (name, name, way) for each two bodies that aren't both walls."""
    papers = pair_papers(rows, span)
    time = earliest(papers)
    if time is not None:
        raise Early(time)
    return tuple([(low, high, paper[1]) for low, high, paper in papers])


def is_flight_entry(one, other, span, entry):
    """Whether the entry, which may be anything, tells a way by which the two don't meet below span."""
    if not isinstance(entry, tuple) or len(entry) != 3:
        return False
    low, high, way = entry
    return low == one[0] and high == other[0] and is_way(way) and is_clear(one, other, way, span)


def flight_held(rows, span, papers):
    """Whether the papers, which may be anything, are those of a flight."""
    due = pairs(rows)
    if not isinstance(papers, tuple) or len(papers) != len(due):
        return False
    for (one, other), entry in zip(due, papers):
        if not is_flight_entry(one, other, span, entry):
            return False
    return True
