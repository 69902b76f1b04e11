"""Gaps: how far two bodies, told by their rows, are from one another along a way."""

from restbodies.shapes import reach, sides
from restbodies.shares import NOUGHT, minus, on_one_bottom
from restbodies.spots import along, spot_minus, spot_plus, spot_times


def turned(way):
    p, q = way
    return (-p, -q)


def pair_ways(one, other):
    """The ways of the one's sides and those of the other's, turned round, each once, in the order of tuples."""
    ways = list(sides(one[1])) + [turned(way) for way in sides(other[1])]
    return tuple(sorted(set(ways)))


def width(one, other, way):
    """How far the other's place lies from the one's along a way where the gap along it is nought."""
    return reach(one[1], way) + reach(other[1], turned(way))


def place_apart(one, other):
    return spot_minus(other[4], one[4])


def speed_apart(one, other):
    return spot_minus(other[5], one[5])


def offset(one, other, after):
    """The other's place less the one's after a time, a spot."""
    return spot_plus(place_apart(one, other), spot_times(speed_apart(one, other), after))


def gap(one, other, way, after=NOUGHT):
    """How far it is along a way from the one to the other after a time, a share."""
    return minus(along(way, offset(one, other, after)), (width(one, other, way), 1))


def rate(one, other, way):
    """How fast the gap along a way grows, a share."""
    return along(way, speed_apart(one, other))


def courses(one, other):
    """For each pair way (way, gap, rate): the gap now and its rate as whole numbers, all over one bottom.

    The bottom is above nought and isn't told: signs, and which of two is more, are seen without it, and
    no share must be brought to lowest terms for them.
    """
    (x, y, u, v), bottom = on_one_bottom(place_apart(one, other) + speed_apart(one, other))
    told = []
    for way in pair_ways(one, other):
        p, q = way
        told.append((way, p * x + q * y - width(one, other, way) * bottom, p * u + q * v))
    return told


def height(course, time):
    """A whole number that is below, at or above nought as the gap of a course is after a time."""
    way, start, slope = course
    return start * time[1] + slope * time[0]
