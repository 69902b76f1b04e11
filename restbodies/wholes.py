"""Whole numbers: what is one, their divisors, their bounds."""

from restbodies.bounds import FIGURES, REACH


def is_whole(thing):
    return isinstance(thing, int) and not isinstance(thing, bool)


def in_reach(thing):
    """Whether a thing, which may be anything, is a whole number from -REACH to REACH."""
    return is_whole(thing) and -REACH <= thing <= REACH


def common_divisor(one, other):
    """The greatest common divisor, not below nought; nought of two noughts."""
    one = abs(one)
    other = abs(other)
    while other != 0:
        one, other = other, one % other
    return one


def is_short(number):
    """Whether a whole number has at most FIGURES figures.

    It isn't written out to count them: Python writes no very long number as a text.
    """
    return abs(number) < int("1" + "0" * FIGURES)


def is_numeral(word):
    """Whether a text is a whole number from nought on as it is written: no noughts ahead."""
    if not 1 <= len(word) <= FIGURES:
        return False
    if word[0] == "0" and word != "0":
        return False
    return all([sign in "0123456789" for sign in word])
