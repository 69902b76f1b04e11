"""Whole numbers: what is one, their divisors, their bounds."""

from restbodies.bounds import FIGURES, REACH

# Of numbers with more binary signs than LENGTHY, so many leading ones are divided at once. It pays from
# about there on: pushes among many bodies may have ten thousand figures.
LENGTHY = 4000
LEADING = 120


def is_whole(thing):
    return isinstance(thing, int) and not isinstance(thing, bool)


def in_reach(thing):
    """Whether a thing, which may be anything, is a whole number from -REACH to REACH."""
    return is_whole(thing) and -REACH <= thing <= REACH


def divided(one, other):
    """Four whole numbers (a, b, c, d): many steps of division at once, by the leading signs of two numbers alone.

    a * one + b * other and c * one + d * other have the same common divisors as one and other, since a * d
    and b * c differ by 1, and are shorter by about half of the leading signs that are looked at.
    """
    shift = one.bit_length() - LEADING
    x = one >> shift
    y = other >> shift
    a, b, c, d = 1, 0, 0, 1
    while y >> (LEADING // 2) != 0:
        many = x // y
        x, y = y, x - many * y
        a, c = c, a - many * c
        b, d = d, b - many * d
    return (a, b, c, d)


def shortened(one, other):
    """Two numbers with the same common divisors, the lesser of them no longer than LENGTHY."""
    while other.bit_length() > LENGTHY:
        a, b, c, d = divided(one, other)
        if b == 0:
            one, other = other, one % other
        else:
            low, high = sorted([abs(a * one + b * other), abs(c * one + d * other)])
            one, other = high, low
    return (one, other)


def common_divisor(one, other):
    """The greatest common divisor, not below nought; nought of two noughts."""
    one = abs(one)
    other = abs(other)
    if one.bit_length() > LENGTHY and other.bit_length() > LENGTHY:
        one, other = shortened(max(one, other), min(one, other))
    while other != 0:
        one, other = other, one % other
    return one


def is_short(number):
    """Whether a whole number has at most FIGURES figures.

    It isn't written out to count them: Python writes no very long number as a text.
    """
    return abs(number) < int("1" + "0" * FIGURES)


def is_numeral(word):
    """Whether a text is a whole number from nought on as it is written: no noughts ahead."""
    if not 1 <= len(word) <= FIGURES:
        return False
    if word[0] == "0" and word != "0":
        return False
    return all([sign in "0123456789" for sign in word])
