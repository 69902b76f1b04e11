"""Points 7, 8 and 9 (is_spot, is_way)."""

import inspect
import random
import unittest
from fractions import Fraction
from math import gcd

from restbodies import spots
from restbodies.errors import NoWay
from restbodies.spots import (
    STILL, across, along, is_spot, is_way, spot_minus, spot_plus, spot_times, way_of,
)

LONG = 7 ** 900  # 761 figures
ALSO_LONG = 3 ** 1500  # 716 figures

NO_TUPLES_OF_TWO = [
    None, True, False, 0, 1, -7, "", "12", "ab", [], (), {}, {0: 1, 1: 2}, (1,), (1, 2, 3), ((1, 2),),
    [[1, 2], [1, 2]], ((1, 2), (1, 2), (1, 2)), [(1, 2), (1, 2)], [1, 2],
]


def told(value):
    value = Fraction(value)
    return (value.numerator, value.denominator)


def some_spots():
    dice = random.Random(7)
    many = [STILL, ((1, 2), (-1, 3)), ((-1, 2), (1, 3)), ((0, 1), (5, 1)), ((LONG, ALSO_LONG), (-1, LONG))]
    for _ in range(8):
        many.append(tuple(told(Fraction(dice.randint(-30, 30), dice.randint(1, 12))) for _ in "xy"))
    return many


def values(spot):
    return [Fraction(*part) for part in spot]


class Interface(unittest.TestCase):

    def test_still(self):
        self.assertEqual(STILL, ((0, 1), (0, 1)))

    def test_arguments(self):
        for name, arguments in [
            ("is_spot", "(thing)"), ("is_way", "(thing)"), ("way_of", "(p, q)"), ("along", "(way, spot)"),
            ("across", "(way, spot)"), ("spot_plus", "(one, other)"), ("spot_minus", "(one, other)"),
            ("spot_times", "(spot, share)"),
        ]:
            self.assertEqual(str(inspect.signature(getattr(spots, name))), arguments)
            self.assertEqual(getattr(spots, name).__module__, "restbodies.spots")


class WayOf(unittest.TestCase):

    def test_common_divisors_and_signs(self):
        for p, q, way in [
            (1, 2, (1, 2)), (2, 4, (1, 2)), (-2, 4, (-1, 2)), (2, -4, (1, -2)), (-2, -4, (-1, -2)), (6, 9, (2, 3)),
            (0, 5, (0, 1)), (0, -5, (0, -1)), (5, 0, (1, 0)), (-5, 0, (-1, 0)), (0, 1, (0, 1)), (-7, -7, (-1, -1)),
            (12, 18, (2, 3)), (18, -12, (3, -2)),
        ]:
            self.assertEqual(way_of(p, q), way)
            self.assertIs(type(way_of(p, q)), tuple)

    def test_hundreds_of_figures(self):
        self.assertEqual(way_of(LONG, ALSO_LONG), (LONG, ALSO_LONG))
        self.assertEqual(way_of(-LONG * 6, LONG * 4), (-3, 2))
        self.assertEqual(way_of(LONG * ALSO_LONG, -ALSO_LONG * 10), (LONG, -10))
        self.assertEqual(way_of(0, -LONG), (0, -1))

    def test_two_noughts_are_refused(self):
        with self.assertRaises(NoWay) as caught:
            way_of(0, 0)
        self.assertIs(type(caught.exception), NoWay)


class Reckoning(unittest.TestCase):

    def test_along_and_across(self):
        self.assertEqual(along((2, 3), ((1, 2), (1, 3))), (2, 1))
        self.assertEqual(across((2, 3), ((1, 2), (1, 3))), (-5, 6))
        self.assertEqual(along((0, -1), ((9, 2), (1, 4))), (-1, 4))
        self.assertEqual(across((1, 0), ((9, 2), (1, 4))), (1, 4))
        self.assertEqual(across((2, -3), ((4, 5), (-6, 5))), (0, 1))
        for p, q in [(1, 0), (0, -1), (3, -4), (-5, 12), (LONG, -ALSO_LONG)]:
            for spot in some_spots():
                x, y = values(spot)
                self.assertEqual(along((p, q), spot), told(p * x + q * y))
                self.assertEqual(across((p, q), spot), told(p * y - q * x))

    def test_sums_and_products(self):
        for one in some_spots():
            for other in some_spots():
                (a, b), (c, d) = values(one), values(other)
                self.assertEqual(spot_plus(one, other), (told(a + c), told(b + d)))
                self.assertEqual(spot_minus(one, other), (told(a - c), told(b - d)))
                self.assertEqual(spot_times(one, other[0]), (told(a * c), told(b * c)))

    def test_lowest_terms(self):
        self.assertEqual(spot_plus(((1, 6), (1, 2)), ((1, 3), (-1, 2))), ((1, 2), (0, 1)))
        self.assertEqual(spot_minus(((1, 6), (1, 2)), ((2, 3), (1, 2))), ((-1, 2), (0, 1)))
        self.assertEqual(spot_times(((2, 3), (-3, 4)), (6, 1)), ((4, 1), (-9, 2)))
        self.assertEqual(spot_times(((2, 3), (-3, 4)), (0, 1)), STILL)


class Kinds(unittest.TestCase):

    def test_is_spot_of_spots(self):
        for spot in some_spots():
            self.assertIs(is_spot(spot), True)

    def test_is_spot_of_other_things(self):
        one = (1, 2)
        for thing in NO_TUPLES_OF_TWO + [
            (one, [1, 2]), ([1, 2], one), (one, (2, 4)), ((2, 4), one), (one, (0, 2)), (one, (1, 0)), (one, (1, -2)),
            (one, (True, 2)), ((1, True), one), ((False, 1), one), (one, None), (one, 1), (1, 2), (one, "1/2"),
            ((1,), one), (one, (1, 2, 3)), ((one, one), one), ((one, one), (one, one)), (one, {}),
        ]:
            with self.subTest(thing):
                self.assertIs(is_spot(thing), False)

    def test_is_way_of_ways(self):
        for way in [(1, 0), (0, 1), (-1, 0), (0, -1), (1, 1), (3, -4), (-5, 12), (LONG, ALSO_LONG), (1, LONG)]:
            self.assertEqual(gcd(*way), 1)
            self.assertIs(is_way(way), True)

    def test_is_way_of_other_things(self):
        for thing in NO_TUPLES_OF_TWO + [
            (0, 0), (2, 4), (0, 2), (-2, 0), (3, -3), (LONG, LONG * 2), (True, 0), (1, True), (True, False),
            (False, 1), (1, False), (None, 1), (1, None), ("1", "2"), ((1, 2), 1), ((1, 2), (1, 2)), ([1], 2),
        ]:
            with self.subTest(repr(thing)[:40]):
                self.assertIs(is_way(thing), False)


if __name__ == "__main__":
    unittest.main()
