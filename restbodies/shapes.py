"""Shapes: convex ones, told by their corners, the inside to the left of each side."""

from restbodies.bounds import CORNERS
from restbodies.errors import BadShape
from restbodies.shares import order
from restbodies.spots import along, spot_minus, way_of
from restbodies.wholes import in_reach


def look_corner(thing):
    if not isinstance(thing, (list, tuple)) or len(thing) != 2:
        raise BadShape("a corner that isn't of two numbers")
    x, y = thing
    if not in_reach(x) or not in_reach(y):
        raise BadShape("a corner's number that is none, or too great")
    return (x, y)


def side_ends(corners):
    """For each side the corner from which and the one to which it goes."""
    return list(zip(corners, corners[1:] + corners[:1]))


def is_left(start, end, corner):
    """Whether the corner lies strictly to the left for one who goes from start to end."""
    a, b = start
    c, d = end
    x, y = corner
    return (c - a) * (y - b) - (d - b) * (x - a) > 0


def is_side(corners, start, end):
    """Whether all corners but the side's own two lie to its left.

    They are counted, so that a corner that comes twice isn't taken for one of the two.
    """
    return len([corner for corner in corners if is_left(start, end, corner)]) == len(corners) - 2


def look_shape(thing):
    """The one form of a shape, which may come begun at any corner, in lists or tuples."""
    if not isinstance(thing, (list, tuple)) or not 3 <= len(thing) <= CORNERS:
        raise BadShape("not a list or tuple of so many corners")
    corners = [look_corner(corner) for corner in thing]
    if not all([is_side(corners, start, end) for start, end in side_ends(corners)]):
        raise BadShape("a corner that isn't to the left of a side")
    first = corners.index(min(corners))
    return tuple(corners[first:] + corners[:first])


def outwards(start, end):
    a, b = start
    c, d = end
    return way_of(d - b, a - c)


def sides(shape):
    """The ways that point outwards, in the order of the sides."""
    return tuple([outwards(start, end) for start, end in side_ends(shape)])


def reach(shape, way):
    """How far the shape goes along a way."""
    p, q = way
    return max([p * x + q * y for x, y in shape])


def within(shape, place, spot):
    """Whether the spot lies strictly inside the shape at a place."""
    seen = spot_minus(spot, place)
    return all([order(along(way, seen), (reach(shape, way), 1)) < 0 for way in sides(shape)])
