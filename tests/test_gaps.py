"""Point 16."""

import inspect
import random
import unittest
from fractions import Fraction

from helpers import BOX, EIGHT, SHAPES, TRIANGLE, box, gap_of, rough_ways, some_pairs, some_share, spot, told, values
from restbodies import gaps
from restbodies.bodies import free, railed, wall
from restbodies.bounds import REACH
from restbodies.gaps import gap, pair_ways, rate
from restbodies.spots import is_way, way_of

WAYS = [(1, 0), (0, -1), (3, -4), (-1, -1), (7, 2), (10 ** 29 + 1, -10 ** 28), (-3 ** 60, 2 ** 101)]
HUGE = ((-REACH, -REACH), (REACH, -REACH), (REACH, REACH), (-REACH, REACH))


class Interface(unittest.TestCase):

    def test_arguments(self):
        for name, arguments in [
            ("pair_ways", "(one, other)"), ("gap", "(one, other, way, after=(0, 1))"), ("rate", "(one, other, way)"),
        ]:
            self.assertEqual(str(inspect.signature(getattr(gaps, name))), arguments)
            self.assertEqual(getattr(gaps, name).__module__, "restbodies.gaps")


class PairWays(unittest.TestCase):

    def test_two_boxes(self):
        ways = ((-1, 0), (0, -1), (0, 1), (1, 0))
        self.assertEqual(pair_ways(box("a", 0, 0), box("b", 9, 1)), ways)
        self.assertIs(type(pair_ways(box("a", 0, 0), box("b", 9, 1))), tuple)

    def test_a_triangle_and_a_box(self):
        triangle, square = box("a", 0, 0, shape=TRIANGLE), box("b", 0, 0)
        self.assertEqual(pair_ways(triangle, square), ((-1, 0), (0, -1), (0, 1), (1, 0), (2, 3)))
        self.assertEqual(pair_ways(square, triangle), ((-2, -3), (-1, 0), (0, -1), (0, 1), (1, 0)))

    def test_two_triangles(self):
        one = box("a", 0, 0, shape=TRIANGLE)
        other = box("b", 0, 0, shape=((0, 0), (1, 0), (0, 5)))
        self.assertEqual(pair_ways(one, other), ((-5, -1), (-1, 0), (0, -1), (0, 1), (1, 0), (2, 3)))

    def test_eight_corners(self):
        eight = box("a", 0, 0, shape=EIGHT)
        other = box("b", 0, 0, shape=((-4, -1), (-3, -3), (3, -4), (5, -3), (6, 0), (5, 2), (0, 4), (-3, 2)))
        self.assertEqual(pair_ways(eight, eight), (
            (-1, -1), (-1, 0), (-1, 1), (0, -1), (0, 1), (1, -1), (1, 0), (1, 1)))
        self.assertEqual(pair_ways(eight, other), (
            (-3, 1), (-2, -5), (-2, -1), (-1, -1), (-1, 0), (-1, 1), (-1, 2), (0, -1), (0, 1), (1, -1), (1, 0),
            (1, 1), (1, 6), (2, -3), (2, 1), (3, -1)))

    def test_places_speeds_and_kinds_do_not_count(self):
        for one in (wall("a", BOX), railed("a", BOX, rail=(1, 3)), box("a", 7, Fraction(1, 3), (5, 5))):
            for other in (wall("b", TRIANGLE), box("b", 7, 0, (1, Fraction(-1, 2)), TRIANGLE)):
                self.assertEqual(pair_ways(one, other), ((-2, -3), (-1, 0), (0, -1), (0, 1), (1, 0)))

    def test_each_once_in_order_and_turned_round(self):
        for one in SHAPES:
            for other in SHAPES:
                first, second = box("a", 0, 0, shape=one), box("b", 1, 1, shape=other)
                ways = pair_ways(first, second)
                self.assertEqual(list(ways), sorted({way_of(p, q) for p, q in rough_ways(first, second)}))
                self.assertTrue(all(is_way(way) for way in ways))
                self.assertEqual(set(pair_ways(second, first)), {(-p, -q) for p, q in ways})
                self.assertEqual(list(pair_ways(second, first)), sorted(pair_ways(second, first)))


class Gap(unittest.TestCase):

    def test_by_hand(self):
        one = box("a", 0, 0, (1, 0))
        other = box("b", 5, Fraction(1, 2), (-1, 2), TRIANGLE)
        for way, after, due in [
            ((1, 0), 0, 3), ((-1, 0), 0, -8), ((0, 1), 0, Fraction(-3, 2)), ((0, -1), 0, Fraction(-5, 2)),
            ((1, 0), 1, 1), ((1, 0), Fraction(3, 2), 0), ((1, 0), 2, -1), ((1, 0), -1, 5), ((1, 0), Fraction(-1, 2), 4),
            ((0, 1), Fraction(3, 4), 0), ((0, 1), Fraction(1, 3), Fraction(-5, 6)), ((1, 1), 0, Fraction(3, 2)),
            ((-2, -3), 0, Fraction(-35, 2)), ((1, -2), 0, -2), ((1, -2), Fraction(1, 6), -3),
        ]:
            self.assertEqual(gap(one, other, way, told(after)), told(due), (way, after))
            if after == 0:
                self.assertEqual(gap(one, other, way), told(due))

    def test_any_way_any_time(self):
        dice = random.Random(3)
        for one, other in some_pairs(40, 4):
            for way in WAYS + list(pair_ways(one, other)):
                after = some_share(dice)
                self.assertEqual(gap(one, other, way), told(gap_of(one, other, way)))
                self.assertEqual(gap(one, other, way, after), told(gap_of(one, other, way, Fraction(*after))))

    def test_the_other_way_round(self):
        dice = random.Random(5)
        for one, other in some_pairs(40, 6):
            for p, q in WAYS:
                after = some_share(dice)
                self.assertEqual(gap(one, other, (p, q), after), gap(other, one, (-p, -q), after))
                self.assertEqual(rate(one, other, (p, q)), rate(other, one, (-p, -q)))

    def test_great_numbers(self):
        far = 10 ** 60 + 1
        one = free("a", HUGE, at=spot(-far, Fraction(far, 7)))
        other = free("b", HUGE, at=spot(far, Fraction(far, 7)), speed=spot(Fraction(-2, 3), 0))
        self.assertEqual(gap(one, other, (1, 0)), (2 * far - 2 * REACH, 1))
        self.assertEqual(gap(one, other, (1, 0), (3 * far - 3 * REACH, 1)), (0, 1))
        self.assertEqual(gap(one, other, (1, 0), (-far, 5)), told(2 * far - 2 * REACH + Fraction(2 * far, 15)))
        self.assertEqual(gap(one, other, (0, 1), (-far, 5)), (-2 * REACH, 1))


class Rate(unittest.TestCase):

    def test_by_hand(self):
        one, other = box("a", 0, 0, (1, Fraction(1, 2))), box("b", 5, 5, (-1, Fraction(2, 3)))
        for way, due in [((1, 0), -2), ((0, 1), Fraction(1, 6)), ((1, 6), -1), ((1, 12), 0), ((-1, 0), 2)]:
            self.assertEqual(rate(one, other, way), told(due))
        self.assertEqual(rate(one, wall("b", BOX), (1, 2)), (-2, 1))

    def test_how_much_the_gap_grows_in_a_time_of_one(self):
        for one, other in some_pairs(40, 7):
            for way in WAYS:
                grown = gap_of(one, other, way, 1) - gap_of(one, other, way)
                self.assertEqual(rate(one, other, way), told(grown))
                self.assertEqual(values([rate(one, other, way)])[0] * Fraction(5, 7),
                                 gap_of(one, other, way, Fraction(5, 7)) - gap_of(one, other, way))


if __name__ == "__main__":
    unittest.main()
