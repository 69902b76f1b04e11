"""Spots, tuples of two shares (x, y), and ways, tuples of two whole numbers without a common divisor."""

from restbodies.errors import NoWay
from restbodies.shares import is_share, is_short_share, minus, plus, times
from restbodies.wholes import common_divisor, is_whole

STILL = ((0, 1), (0, 1))


def is_spot(thing):
    """Whether a thing, which may be anything, is a spot."""
    if not isinstance(thing, tuple) or len(thing) != 2:
        return False
    return is_share(thing[0]) and is_share(thing[1])


def is_short_spot(thing):
    """Whether a thing, which may be anything, is a spot with at most FIGURES figures in each number."""
    return is_spot(thing) and is_short_share(thing[0]) and is_short_share(thing[1])


def is_way(thing):
    """Whether a thing, which may be anything, is a way."""
    if not isinstance(thing, tuple) or len(thing) != 2:
        return False
    p, q = thing
    if not is_whole(p) or not is_whole(q):
        return False
    return common_divisor(p, q) == 1


def way_of(p, q):
    """The way that points as (p, q) does."""
    divisor = common_divisor(p, q)
    if divisor == 0:
        raise NoWay("two noughts point no way")
    return (p // divisor, q // divisor)


def along(way, spot):
    p, q = way
    x, y = spot
    return plus(times((p, 1), x), times((q, 1), y))


def across(way, spot):
    p, q = way
    x, y = spot
    return minus(times((p, 1), y), times((q, 1), x))


def spot_plus(one, other):
    return (plus(one[0], other[0]), plus(one[1], other[1]))


def spot_minus(one, other):
    return (minus(one[0], other[0]), minus(one[1], other[1]))


def spot_times(spot, share):
    return (times(spot[0], share), times(spot[1], share))
