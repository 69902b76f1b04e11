"""How two bodies stand to one another: over, or not; and papers of it."""

from restbodies.gaps import courses, gap, height, offset
from restbodies.rows import moved
from restbodies.shapes import reach, side_ends, sides, within
from restbodies.shares import NOUGHT, minus, order, over, plus
from restbodies.spots import along, is_spot, is_way, spot_minus, spot_plus, spot_times


def are_over(one, other):
    """Whether the two are over one another now."""
    return all([start < 0 for way, start, slope in courses(one, other)])


def corner_spots(shape):
    return [((x, 1), (y, 1)) for x, y in shape]


def crossing(start, end, way, limit):
    """The spot between start and end that lies just as far along the way as the limit."""
    ahead = along(way, start)
    part = over(minus(limit, ahead), minus(along(way, end), ahead))
    return spot_plus(start, spot_times(spot_minus(end, start), part))


def cut(corners, way, limit):
    """The corners of what lies no farther along the way than the limit."""
    kept = []
    for start, end in side_ends(corners):
        here = order(along(way, start), limit)
        if here <= 0:
            kept.append(start)
        if here * order(along(way, end), limit) < 0:
            kept.append(crossing(start, end, way, limit))
    return kept


def spot_in_both(one, other, after):
    """A spot strictly inside both of two bodies that are over one another after a time."""
    away = offset(one, other, after)
    corners = corner_spots(one[1])
    for way in sides(other[1]):
        corners = cut(corners, way, plus(along(way, away), (reach(other[1], way), 1)))
    # No three corners of what is left lie on one line, so the middle of three is strictly inside.
    total = spot_plus(spot_plus(corners[0], corners[1]), corners[2])
    return spot_plus(moved(one, after)[4], spot_times(total, (1, 3)))


def apart(one, other, after=NOUGHT):
    """A paper of how the two stand after a time: ("apart", way) or ("over", spot)."""
    for course in courses(one, other):
        if height(course, after) >= 0:
            return ("apart", course[0])
    return ("over", spot_in_both(one, other, after))


def is_inside(row, spot, after):
    return within(row[1], moved(row, after)[4], spot)


def apart_held(one, other, paper, after=NOUGHT):
    """Whether the paper, which may be anything, tells how the two stand after a time."""
    if not isinstance(paper, tuple) or len(paper) != 2:
        return False
    word, told = paper
    if word == "over":
        return is_spot(told) and is_inside(one, told, after) and is_inside(other, told, after)
    if word == "apart":
        return is_way(told) and order(gap(one, other, told, after), NOUGHT) >= 0
    return False
