"""Points 10 and 11."""

import copy
import inspect
import unittest
from fractions import Fraction

from restbodies import shapes
from restbodies.bounds import REACH
from restbodies.errors import BadShape
from restbodies.shapes import look_shape, reach, sides, within

SQUARE = ((0, 0), (2, 0), (2, 2), (0, 2))
TRIANGLE = ((0, 0), (3, 0), (0, 3))
EIGHT = ((0, 1), (1, 0), (2, 0), (3, 1), (3, 2), (2, 3), (1, 3), (0, 2))
KITE = ((-4, -1), (2, -3), (5, 1), (1, 6))
HUGE = ((-REACH, -REACH), (REACH, -REACH), (REACH, REACH), (-REACH, REACH))
ALL = [SQUARE, TRIANGLE, EIGHT, KITE, HUGE]


def turned(corners, count):
    return corners[count:] + corners[:count]


def told(*values):
    made = [Fraction(value) for value in values]
    return tuple((value.numerator, value.denominator) for value in made)


class Interface(unittest.TestCase):

    def test_arguments(self):
        for name, arguments in [("look_shape", "(thing)"), ("sides", "(shape)"), ("reach", "(shape, way)"),
                                ("within", "(shape, place, spot)")]:
            self.assertEqual(str(inspect.signature(getattr(shapes, name))), arguments)
            self.assertEqual(getattr(shapes, name).__module__, "restbodies.shapes")


class LookShape(unittest.TestCase):

    def assert_bad(self, thing):
        with self.subTest(repr(thing)[:80]):
            with self.assertRaises(BadShape) as caught:
                look_shape(thing)
            self.assertIs(type(caught.exception), BadShape)

    def test_begun_at_any_corner_in_lists_or_tuples(self):
        for shape in ALL:
            for count in range(len(shape)):
                begun = turned(shape, count)
                for thing in [begun, list(begun), [list(corner) for corner in begun],
                              tuple(list(corner) for corner in begun),
                              [list(corner) if corner[0] > 0 else corner for corner in begun]]:
                    kept = copy.deepcopy(thing)
                    made = look_shape(thing)
                    self.assertEqual(made, shape)
                    self.assertEqual({type(made)} | {type(corner) for corner in made}, {tuple})
                    self.assertEqual(thing, kept)
                    self.assertIs(type(thing), type(kept))

    def test_the_least_corner_is_by_x_then_y(self):
        self.assertEqual(look_shape([(1, -5), (2, 0), (0, 1), (0, -4)]), ((0, -4), (1, -5), (2, 0), (0, 1)))
        self.assertEqual(look_shape([(-1, 7), (-2, 3), (5, -9)]), ((-2, 3), (5, -9), (-1, 7)))

    def test_counts(self):
        self.assertEqual(look_shape(EIGHT), EIGHT)
        self.assertEqual(look_shape(TRIANGLE), TRIANGLE)
        nine = ((0, 4), (1, 2), (2, 1), (4, 0), (6, 1), (7, 3), (6, 5), (4, 6), (1, 6))
        self.assertEqual(look_shape(nine[1:]), nine[1:])
        self.assert_bad(nine)
        self.assert_bad(((0, 0), (1, 0)))
        self.assert_bad(((0, 0),))
        self.assert_bad(())
        self.assert_bad([])

    def test_reach_of_numbers(self):
        self.assertEqual(look_shape(HUGE), HUGE)
        for bad in (REACH + 1, -REACH - 1, 10 ** 900):
            self.assert_bad(((bad, 0), (0, -3), (0, 3)) if bad < 0 else ((0, -3), (bad, 0), (0, 3)))
            self.assert_bad(((0, bad), (-3, 0), (3, 0)) if bad > 0 else ((0, bad), (3, 0), (-3, 0)))
        for good in (REACH, -REACH):
            shape = ((good, 0), (0, 3), (0, -3)) if good > 0 else ((good, 0), (0, -3), (0, 3))
            self.assertEqual(set(look_shape(shape)), set(shape))

    def test_the_other_way_round(self):
        for shape in ALL:
            for count in range(len(shape)):
                self.assert_bad(turned(shape[::-1], count))

    def test_a_corner_amid_a_side_or_twice(self):
        self.assert_bad(((0, 0), (1, 0), (2, 0), (2, 2), (0, 2)))
        self.assert_bad(((0, 0), (2, 0), (2, 2), (0, 2), (0, 1)))
        self.assert_bad(((0, 0), (0, 0), (3, 0), (0, 3)))
        self.assert_bad(((0, 0), (3, 0), (0, 3), (0, 0)))
        self.assert_bad(((0, 0), (3, 0), (0, 0), (0, 3)))
        self.assert_bad(((0, 0), (0, 0), (0, 0)))
        self.assert_bad(((0, 0), (1, 1), (0, 0)))
        self.assert_bad(((0, 0), (1, 1), (2, 2)))
        self.assert_bad(((0, 0), (3, 0), (6, 0), (0, 3)))

    def test_one_that_goes_round_more_than_once(self):
        self.assert_bad(TRIANGLE + TRIANGLE)
        self.assert_bad(SQUARE + SQUARE)
        five = ((0, 0), (4, 0), (5, 4), (2, 6), (-1, 4))
        self.assertEqual(set(look_shape(five)), set(five))
        self.assert_bad(tuple(five[2 * k % 5] for k in range(5)))
        self.assert_bad(tuple(EIGHT[3 * k % 8] for k in range(8)))
        self.assert_bad(((0, 0), (2, 2), (2, 0), (0, 2)))

    def test_one_that_is_hollow(self):
        self.assert_bad(((0, 0), (4, 0), (1, 1), (0, 4)))
        self.assert_bad(((0, 0), (4, 0), (4, 4), (3, 1)))

    def test_truths_are_no_numbers(self):
        self.assert_bad(((False, 0), (3, 0), (0, 3)))
        self.assert_bad(((0, 0), (3, False), (0, 3)))
        self.assert_bad(((0, 0), (True, 0), (0, True)))
        self.assert_bad(((0, 0), (1, 0), (0, True)))

    def test_any_other_thing(self):
        for thing in [
            None, True, False, 0, 3, "", "abc", "0,0 1,0 0,1", {}, {0: (0, 0), 1: (1, 0), 2: (0, 1)}, (0, 0, 0), [1, 2, 3],
            ((0, 0), (1, 0), None), ((0, 0), (1, 0), (0,)), ((0, 0), (1, 0), (0, 1, 0)), ((0, 0), (1, 0), "01"),
            ((0, 0), (1, 0), ("0", "1")), ((0, 0), (1, 0), {0: 0, 1: 1}), ((0, 0), (1, 0), (0, None)),
            ((0, 0), (1, 0), ((0, 1), 1)), [[[0, 0]], [[1, 0]], [[0, 1]]], ((0, 0), (1, 0), ()), (SQUARE,),
            [(0, 0)] * 10000,
        ]:
            self.assert_bad(thing)


class Sides(unittest.TestCase):

    def test_in_the_order_of_the_sides(self):
        self.assertEqual(sides(SQUARE), ((0, -1), (1, 0), (0, 1), (-1, 0)))
        self.assertEqual(sides(TRIANGLE), ((0, -1), (1, 1), (-1, 0)))
        self.assertEqual(sides(KITE), ((-1, -3), (4, -3), (5, 4), (-7, 5)))
        self.assertEqual(sides(HUGE), sides(SQUARE))
        self.assertEqual(len(sides(EIGHT)), 8)
        self.assertIs(type(sides(EIGHT)), tuple)

    def test_they_point_outwards(self):
        for shape in ALL:
            for k, (p, q) in enumerate(sides(shape)):
                far = [p * x + q * y for x, y in shape]
                best = [at for at, value in enumerate(far) if value == max(far)]
                self.assertEqual(best, sorted([k, (k + 1) % len(shape)]))


class Reach(unittest.TestCase):

    def test_by_hand(self):
        self.assertEqual(reach(SQUARE, (1, 0)), 2)
        self.assertEqual(reach(SQUARE, (-1, 0)), 0)
        self.assertEqual(reach(SQUARE, (3, -5)), 6)
        self.assertEqual(reach(KITE, (-1, -3)), 7)
        self.assertEqual(reach(HUGE, (1, 1)), 2 * REACH)
        self.assertEqual(reach(((5, 5), (7, 5), (6, 8)), (-1, -1)), -10)
        self.assertIs(type(reach(KITE, (2, 3))), int)

    def test_long_ways(self):
        p, q = 10 ** 300 + 1, -10 ** 299
        self.assertEqual(reach(KITE, (p, q)), max(p * x + q * y for x, y in KITE))


class Within(unittest.TestCase):

    def test_of_a_square(self):
        hair = Fraction(1, 10 ** 60)
        place = told("7/3", "-1/5")
        for x, y, inside in [
            (1, 1, True), (hair, hair, True), (2 - hair, 1, True), (2 - hair, 2 - hair, True),
            (0, 1, False), (2, 1, False), (1, 0, False), (1, 2, False), (0, 0, False), (2, 0, False), (2, 2, False),
            (0, 2, False), (-hair, 1, False), (2 + hair, 1, False), (1, -hair, False), (1, 2 + hair, False),
            (3, 3, False), (-1, -1, False), (1, 100, False),
        ]:
            spot = told(Fraction(7, 3) + x, Fraction(-1, 5) + y)
            self.assertIs(within(SQUARE, place, spot), inside, (x, y))

    def test_of_a_slanted_side(self):
        hair = Fraction(1, 10 ** 60)
        for x, y, inside in [
            (1, 1, True), (Fraction(3, 2), Fraction(3, 2) - hair, True), (Fraction(3, 2), Fraction(3, 2), False),
            (Fraction(3, 2), Fraction(3, 2) + hair, False), (3, 0, False), (0, 3, False), (2, 2, False),
        ]:
            self.assertIs(within(TRIANGLE, told(0, 0), told(x, y)), inside, (x, y))
            self.assertIs(within(TRIANGLE, told("1/7", -4), told(x + Fraction(1, 7), y - 4)), inside, (x, y))

    def test_corners_lie_outside_and_the_middle_inside(self):
        for shape in ALL:
            place = told("-22/7", "1/3")
            for x, y in shape:
                self.assertIs(within(shape, place, told(x - Fraction(22, 7), y + Fraction(1, 3))), False)
            many = len(shape)
            middle = [Fraction(sum(corner[k] for corner in shape), many) for k in (0, 1)]
            self.assertIs(within(shape, told(0, 0), told(*middle)), True)


if __name__ == "__main__":
    unittest.main()
