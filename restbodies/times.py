"""When two bodies that go straight meet; and papers of it."""

from restbodies.errors import Over
from restbodies.gaps import courses, gap, height, speed_apart
from restbodies.shares import NOUGHT, is_share, on_one_bottom, order, share
from restbodies.spots import is_way, way_of


def time_of(course):
    """When the gap of a course comes to nought; its rate isn't nought."""
    way, start, slope = course
    return share(-start, slope)


def meets_along(course, all_courses):
    """Whether the two meet, from now on, where the gap of this course comes to nought.

    Then it falls, and each other gap is below nought at that time or falls to nought just then, too.
    """
    way, start, slope = course
    if start < 0 or slope >= 0:
        return False
    for each, other_start, other_slope in all_courses:
        then = other_slope * start - other_start * slope
        if then > 0 or (then == 0 and other_slope >= 0):
            return False
    return True


def meeting_courses(all_courses, until):
    """Those courses along which the two meet below until."""
    met = [course for course in all_courses if meets_along(course, all_courses)]
    return [course for course in met if order(time_of(course), until) < 0]


def upright_ways(one, other):
    """The two ways upright to the speed of the other less the one's; none where that is still."""
    (x, y), bottom = on_one_bottom(speed_apart(one, other))
    if x == 0 and y == 0:
        return []
    return [way_of(-y, x), way_of(y, -x)]


def is_clear(one, other, way, until):
    return order(gap(one, other, way), NOUGHT) >= 0 and order(gap(one, other, way, until), NOUGHT) >= 0


def clear_way(one, other, until, all_courses):
    """A way along which the gap isn't below nought, now and after until, of two that don't meet before."""
    for course in all_courses:
        if course[1] >= 0 and height(course, until) >= 0:
            return course[0]
    return [way for way in upright_ways(one, other) if is_clear(one, other, way, until)][0]


def first(one, other, until):
    """A paper of when two bodies meet below until: ("meets", time, way), or else ("clear", way)."""
    all_courses = courses(one, other)
    if all([start < 0 for way, start, slope in all_courses]):
        low, high = sorted([one[0], other[0]])
        raise Over(low, high)
    met = meeting_courses(all_courses, until)
    if len(met) > 0:
        return ("meets", time_of(met[0]), met[0][0])
    return ("clear", clear_way(one, other, until, all_courses))


def is_meeting(one, other, until, time, way):
    """Whether the two meet at that time, below until, along that way; time and way may be anything."""
    if not is_share(time) or not is_way(way):
        return False
    met = [course for course in meeting_courses(courses(one, other), until) if course[0] == way]
    return [time_of(course) for course in met] == [time]


def first_held(one, other, until, paper):
    """Whether the paper, which may be anything, tells when the two meet, or that they don't below until."""
    if not isinstance(paper, tuple):
        return False
    if len(paper) == 2 and paper[0] == "clear":
        return is_way(paper[1]) and is_clear(one, other, paper[1], until)
    if len(paper) == 3 and paper[0] == "meets":
        return is_meeting(one, other, until, paper[1], paper[2])
    return False
