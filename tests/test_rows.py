"""Point 15."""

import inspect
import unittest

from restbodies import rows
from restbodies.bodies import free, railed, wall
from restbodies.errors import NoBody
from restbodies.rows import find_row, moved, pairs, sped
from restbodies.shares import NOUGHT
from restbodies.spots import STILL

BOX = ((0, 0), (2, 0), (2, 1), (0, 1))
WALL = wall("floor", BOX, at=((1, 2), (0, 1)))
FREE = free("ball", BOX, mass=3, at=((1, 2), (-1, 3)), speed=((-5, 2), (7, 1)))
RAILED = railed("cart", BOX, rail=(1, -2), at=((4, 1), (4, 1)), speed=((1, 3), (-2, 3)))
EACH = (WALL, FREE, RAILED)


class Interface(unittest.TestCase):

    def test_arguments(self):
        for name, arguments in [("moved", "(row, span)"), ("sped", "(row, change)"), ("find_row", "(rows, name)")]:
            self.assertEqual(str(inspect.signature(getattr(rows, name))), arguments)
            self.assertEqual(getattr(rows, name).__module__, "restbodies.rows")


class Moved(unittest.TestCase):

    def test_places(self):
        for row, span, place in [
            (FREE, (1, 1), ((-2, 1), (20, 3))), (FREE, (1, 5), ((0, 1), (16, 15))),
            (FREE, (-1, 1), ((3, 1), (-22, 3))), (FREE, (-2, 5), ((3, 2), (-47, 15))),
            (RAILED, (3, 2), ((9, 2), (3, 1))), (RAILED, (-12, 1), ((0, 1), (12, 1))),
            (WALL, (7, 3), WALL[4]), (WALL, (-7, 3), WALL[4]),
        ]:
            self.assertEqual(moved(row, span), row[:4] + (place, row[5]))

    def test_a_span_of_nought(self):
        for row in EACH:
            self.assertEqual(moved(row, NOUGHT), row)

    def test_there_and_back(self):
        for row in EACH:
            self.assertEqual(moved(moved(row, (10 ** 500, 7)), (-10 ** 500, 7)), row)

    def test_what_is_no_row_any_more(self):
        going = WALL[:5] + (((1, 1), (-1, 2)),)
        self.assertEqual(moved(going, (2, 1))[4], ((5, 2), (-1, 1)))


class Sped(unittest.TestCase):

    def test_any_change_of_any_body(self):
        for row, change, speed in [
            (FREE, ((1, 2), (1, 1)), ((-2, 1), (8, 1))), (FREE, ((5, 2), (-7, 1)), STILL),
            (RAILED, ((1, 3), (-2, 3)), ((2, 3), (-4, 3))), (RAILED, ((1, 6), (5, 3)), ((1, 2), (1, 1))),
            (WALL, ((1, 2), (-3, 1)), ((1, 2), (-3, 1))),
            (FREE, ((0, 1), (10 ** 500, 1)), ((-5, 2), (10 ** 500 + 7, 1))),
        ]:
            self.assertEqual(sped(row, change), row[:5] + (speed,))

    def test_no_change(self):
        for row in EACH:
            self.assertEqual(sped(row, STILL), row)


class FindRow(unittest.TestCase):

    def assert_no_body(self, world, name):
        with self.subTest(repr(name)):
            with self.assertRaises(NoBody) as caught:
                find_row(world, name)
            self.assertIs(type(caught.exception), NoBody)

    def test_each_name(self):
        world = tuple(free(name, BOX) for name in ["a", "ab", "abc", "b", "ba"])
        for row in world:
            self.assertEqual(find_row(world, row[0]), row)

    def test_no_such_name(self):
        world = tuple(free(name, BOX) for name in ["ab", "abc", "b"])
        for name in ["a", "abcd", "c", "", "AB", "ab ", " ab", "ab\n", "bc"]:
            self.assert_no_body(world, name)
        self.assert_no_body((), "a")

    def test_what_is_no_text(self):
        world = tuple(free(name, BOX) for name in ["ab", "abc", "b"])
        for name in [None, True, False, 0, 1, (), [], {}, ("ab",), ["ab"], {"ab": 1}, world[0], world, 10 ** 900]:
            self.assert_no_body(world, name)


class Pairs(unittest.TestCase):

    def test_each_two_that_are_not_both_walls(self):
        a, b, c, d = wall("a", BOX), free("b", BOX), wall("c", BOX), railed("d", BOX, rail=(1, 0))
        self.assertEqual(pairs((a, b, c, d)), [(a, b), (a, d), (b, c), (b, d), (c, d)])
        for world in [(), (b,), (a,), (a, c)]:
            self.assertEqual(pairs(world), [])


if __name__ == "__main__":
    unittest.main()
