"""Shares: fractions in lowest terms, tuples (top, bottom) with a bottom of at least 1."""

from restbodies.errors import NoShare
from restbodies.wholes import common_divisor, is_numeral, is_short, is_whole

NOUGHT = (0, 1)
WHOLE = (1, 1)


def is_share(thing):
    """Whether a thing, which may be anything, is a share."""
    if not isinstance(thing, tuple) or len(thing) != 2:
        return False
    top, bottom = thing
    if not is_whole(top) or not is_whole(bottom):
        return False
    return bottom >= 1 and common_divisor(top, bottom) == 1


def is_short_share(thing):
    """Whether a thing, which may be anything, is a share with at most FIGURES figures in each number."""
    return is_share(thing) and is_short(thing[0]) and is_short(thing[1])


def share(top, bottom=1):
    """Top over bottom, in lowest terms."""
    if bottom == 0:
        raise NoShare("a bottom of nought")
    if bottom < 0:
        top = -top
        bottom = -bottom
    divisor = common_divisor(top, bottom)
    return (top // divisor, bottom // divisor)


def plus(one, other):
    """The sum. Divisors are sought of the bottoms first: these are shorter than the sum's numbers."""
    top, bottom = one
    more, part = other
    divisor = common_divisor(bottom, part)
    if divisor == 1:
        return (top * part + more * bottom, bottom * part)
    total = top * (part // divisor) + more * (bottom // divisor)
    again = common_divisor(total, divisor)
    return (total // again, (bottom // divisor) * (part // again))


def minus(one, other):
    top, bottom = other
    return plus(one, (-top, bottom))


def times(one, other):
    """The product. What is common to a top and the other's bottom goes first, to keep numbers short."""
    top, bottom = one
    more, part = other
    divisor = common_divisor(top, part)
    again = common_divisor(more, bottom)
    return ((top // divisor) * (more // again), (bottom // again) * (part // divisor))


def over(one, other):
    top, bottom = other
    if top == 0:
        raise NoShare("over by nought")
    if top < 0:
        return times(one, (-bottom, -top))
    return times(one, (bottom, top))


def order(one, other):
    """-1, 0 or 1: the one is less, the same, more."""
    left = one[0] * other[1]
    right = other[0] * one[1]
    if left < right:
        return -1
    if left > right:
        return 1
    return 0


def least(shares, *, default=NOUGHT):
    """The least of a list, the default of an empty one."""
    if len(shares) == 0:
        return default
    best = shares[0]
    for one in shares:
        if order(one, best) < 0:
            best = one
    return best


def on_one_bottom(shares):
    """The tops of the shares over one bottom that serves them all, as a list, and that bottom."""
    base = 1
    for top, bottom in shares:
        base = base // common_divisor(base, bottom) * bottom
    return ([top * (base // bottom) for top, bottom in shares], base)


def share_text(one):
    top, bottom = one
    if bottom == 1:
        return str(top)
    return f"{top}/{bottom}"


def read_top(word):
    if word == "-0" or not is_numeral(word.removeprefix("-")):
        raise NoShare("a top that is no number")
    return int(word)


def read_bottom(word):
    if word == "0" or word == "1" or not is_numeral(word):
        raise NoShare("a bottom that is no number from 2 on")
    return int(word)


def read_share(text):
    """The share of a text that is just as share_text writes it."""
    before, stroke, behind = text.partition("/")
    top = read_top(before)
    if stroke == "":
        return (top, 1)
    bottom = read_bottom(behind)
    if common_divisor(top, bottom) != 1:
        raise NoShare("not in lowest terms")
    return (top, bottom)
