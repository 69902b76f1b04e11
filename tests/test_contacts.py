"""Points 22 and 23."""

import inspect
import random
import unittest
from fractions import Fraction

from helpers import (
    BOX, DIAMOND, EIGHT, SHAPES, TRIANGLE, are_over, box, corners_of, gap_of, meeting_time, some_spot, spot, told,
    values, world,
)
from restbodies import contacts as module
from restbodies.bodies import free, railed, wall
from restbodies.bounds import REACH
from restbodies.contacts import closing, contacts, parting
from restbodies.errors import Over
from restbodies.gaps import pair_ways
from restbodies.spots import is_way

HAIR = Fraction(1, 10 ** 60)
FLOOR = wall("floor", ((-50, -2), (50, -2), (50, 0), (-50, 0)))


def touching_pairs(count, seed):
    """Two bodies each that touch, most of them at corners that meet."""
    dice = random.Random(seed)
    found = []
    while len(found) < count:
        one = free("a", dice.choice(SHAPES), at=some_spot(dice, 4, 3), speed=some_spot(dice, 2, 2))
        shape = dice.choice(SHAPES)
        (x, y), (a, b) = dice.choice(corners_of(one)), dice.choice(shape)
        slide = dice.choice([0, 0, Fraction(1, 2)])
        other = free("b", shape, at=spot(x - a + slide, y - b), speed=some_spot(dice, 2, 2))
        if not are_over(one, other) and max(gap_of(one, other, way) for way in pair_ways(one, other)) == 0:
            found.append((one, other))
    return found


class Interface(unittest.TestCase):

    def test_arguments(self):
        for name, arguments in [
            ("contacts", "(rows)"), ("parting", "(rows, contact)"), ("closing", "(rows, contacts)"),
        ]:
            self.assertEqual(str(inspect.signature(getattr(module, name))), arguments)
            self.assertEqual(getattr(module, name).__module__, "restbodies.contacts")


class Contacts(unittest.TestCase):

    def assert_contacts(self, rows, due):
        with self.subTest(rows=rows):
            told_now = contacts(rows)
            self.assertEqual(told_now, due)
            self.assertIs(type(told_now), tuple)
            self.assertTrue(all(type(each) is tuple and is_way(each[2]) for each in told_now))
            self.assertEqual(contacts(rows), told_now)

    def assert_over(self, rows, one, other):
        with self.assertRaises(Over) as caught:
            contacts(rows)
        self.assertIs(type(caught.exception), Over)
        self.assertEqual((caught.exception.one, caught.exception.other), (one, other))

    def test_none(self):
        for rows in [(), (FLOOR,), (box("a", 0, 0),), world(box("a", 0, 0), box("b", 2 + HAIR, 0)),
                     world(box("a", 0, 0), box("b", 9, 9, (-1, -1)), FLOOR[:4] + (spot(0, -1), FLOOR[5]))]:
            self.assert_contacts(rows, ())

    def test_along_sides(self):
        for x, y, way in [(2, 0, (1, 0)), (2, 1, (1, 0)), (-2, Fraction(3, 2), (-1, 0)), (0, 2, (0, 1)),
                          (Fraction(-1, 3), -2, (0, -1)), (2, 2 - HAIR, (1, 0))]:
            for speed in [(0, 0), (1, 1), (-1, 5), (HAIR, -1)]:
                self.assert_contacts(world(box("a", 0, 0), box("b", x, y, speed)), (("a", "b", way),))
                turned = (-way[0], -way[1])
                self.assert_contacts(world(box("b", 0, 0), box("a", x, y, speed)), (("a", "b", turned),))

    def test_a_corner_on_a_side(self):
        self.assert_contacts(world(box("a", 0, 0), box("b", 3, 1, shape=DIAMOND)), (("a", "b", (1, 0)),))
        self.assert_contacts(world(box("a", 0, 0), box("b", 3, Fraction(1, 7), (-1, 0), DIAMOND)), (("a", "b", (1, 0)),))
        slope = box("a", 0, 0, shape=TRIANGLE)
        self.assert_contacts(world(slope, box("b", Fraction(3, 2), 1)), (("a", "b", (2, 3)),))
        self.assert_contacts(world(slope, box("c", Fraction(3, 2), 1), FLOOR),
                             (("a", "c", (2, 3)), ("a", "floor", (0, -1))))

    def test_corners_that_meet_go_by_the_rates(self):
        for u, v, way in [
            (0, -1, (1, 0)), (1, -1, (1, 0)), (HAIR, -5, (1, 0)), (-1, 0, (0, 1)), (-1, 1, (0, 1)), (-5, HAIR, (0, 1)),
            (-1, -1, (1, 1)), (-1, -HAIR, (1, 1)), (-5, -1, (1, 1)),
            (0, 0, (1, 1)), (1, 0, (1, 1)), (0, 1, (1, 1)), (1, 1, (1, 1)), (HAIR, 9, (1, 1)),
        ]:
            self.assert_contacts(world(box("a", 0, 0), box("b", 2, 2, (u, v))), (("a", "b", way),))
            self.assert_contacts(world(box("a", 0, 0, (-u, -v)), box("b", 2, 2)), (("a", "b", way),))
            self.assert_contacts(world(box("a", 0, 0, (7, 7)), box("b", 2, 2, (7 + u, 7 + v))), (("a", "b", way),))
            turned = (-way[0], -way[1])
            self.assert_contacts(world(box("b", 0, 0), box("a", 2, 2, (u, v))), (("a", "b", turned),))
            mirrored = (-way[0], way[1])
            self.assert_contacts(world(box("a", 0, 0), box("b", -2, 2, (-u, v))), (("a", "b", mirrored),))

    def test_the_sum_in_lowest_terms(self):
        slope = box("a", 0, 0, shape=TRIANGLE)
        self.assert_contacts(world(slope, box("b", 3, 0)), (("a", "b", (1, 1)),))
        self.assert_contacts(world(slope, box("b", 3, 0, (-1, 1))), (("a", "b", (2, 3)),))
        self.assert_contacts(world(slope, box("b", 3, 0, (0, -1))), (("a", "b", (1, 0)),))
        self.assert_contacts(world(slope, box("b", 0, 2)), (("a", "b", (1, 2)),))
        self.assert_contacts(world(box("a", 0, 0), box("b", 3, 2, shape=DIAMOND)), (("a", "b", (2, 1)),))
        self.assert_contacts(world(box("a", 0, 0), box("b", 3, 2, (0, -1), DIAMOND)), (("a", "b", (1, 0)),))
        self.assert_contacts(world(box("a", 0, 0), box("b", 3, 2, (-2, 1), DIAMOND)), (("a", "b", (2, 1)),))
        self.assert_contacts(world(box("a", 0, 0), box("b", 3, 2, (-2, 3), DIAMOND)), (("a", "b", (1, 1)),))

    def test_walls_with_walls_are_left_out(self):
        rows = world(wall("a", BOX), wall("b", BOX, at=spot(2, 0)), wall("c", BOX, at=spot(1, 0)), box("d", 1, 2))
        self.assert_contacts(rows, (("a", "d", (0, 1)), ("b", "d", (0, 1)), ("c", "d", (0, 1))))
        self.assert_contacts(rows[:3], ())

    def test_many_bodies_in_the_order_of_names(self):
        rows = world(box("b", 0, 0), box("ab", 2, 0), box("a", 1, 2), FLOOR,
                     railed("cart", BOX, rail=(1, 0), at=spot(4, 0)), wall("zwall", EIGHT, at=spot(8, 2)))
        self.assert_contacts(rows, (
            ("a", "ab", (0, -1)), ("a", "b", (0, -1)), ("ab", "b", (-1, 0)), ("ab", "cart", (1, 0)),
            ("ab", "floor", (0, -1)), ("b", "floor", (0, -1)), ("cart", "floor", (0, -1)), ("cart", "zwall", (1, 0))))

    def test_over(self):
        self.assert_over(world(box("a", 0, 0), box("b", 1, 1)), "a", "b")
        self.assert_over(world(box("z", 0, 0), wall("b", BOX, at=spot(2 - HAIR, 0))), "b", "z")
        rows = world(box("a", 0, 0), box("b", 9, 0), box("c", 10, 1), box("d", 1, 1), box("e", 9, 1))
        self.assert_over(rows, "a", "d")
        self.assert_over(rows[1:], "b", "c")
        self.assert_over(rows[1:2] + rows[3:], "b", "e")
        self.assert_over(world(box("b", 2, 0), box("a", 0, 0), box("ab", 2, 1), box("aa", 30, 0)), "ab", "b")

    def test_over_walls_are_let_by(self):
        walls = (wall("a", BOX), wall("b", BOX), wall("c", BOX, at=spot(1, 1)))
        self.assert_contacts(walls, ())
        self.assert_contacts(walls + (box("d", -2, 0),), (("a", "d", (-1, 0)), ("b", "d", (-1, 0))))
        self.assert_over(walls + (box("d", 2, 2), box("e", 2, 2)), "c", "d")

    def test_great_numbers(self):
        huge = ((-REACH, -REACH), (REACH, -REACH), (REACH, REACH), (-REACH, REACH))
        far = 10 ** 60 + 7
        one = free("a", huge, at=spot(far, Fraction(far, 3)))
        self.assert_contacts((one, free("b", huge, at=spot(far + 2 * REACH, Fraction(far, 3)))), (("a", "b", (1, 0)),))
        self.assert_contacts((one, free("b", huge, at=spot(far + 2 * REACH + HAIR, Fraction(far, 3)))), ())
        self.assert_over((one, free("b", huge, at=spot(far + 2 * REACH - HAIR, Fraction(far, 3)))), "a", "b")

    def test_just_those_that_meet_now_close(self):
        dice = random.Random(30)
        closed = 0
        for rows in touching_pairs(300, 31):
            (contact,) = contacts(rows)
            self.assertEqual(contact[:2], ("a", "b"))
            self.assertEqual(gap_of(*rows, contact[2]), 0)
            self.assertEqual(values([parting(rows, contact)])[0] < 0, meeting_time(*rows) == 0)
            closed += meeting_time(*rows) == 0
            for _ in range(3):
                changed = tuple(row[:5] + (some_spot(dice, 2, 2),) for row in rows)
                if parting(changed, contact)[0] >= 0:
                    self.assertNotEqual(meeting_time(*changed), 0)
        self.assertGreater(closed, 50)


class Parting(unittest.TestCase):

    rows = world(box("a", 0, 0, (1, 0)), box("b", 0, 0, (Fraction(-1, 2), 3)), wall("w", BOX))

    def test_each_sign(self):
        for contact, due in [
            (("a", "b", (1, 0)), Fraction(-3, 2)), (("a", "b", (-1, 0)), Fraction(3, 2)), (("a", "b", (2, 1)), 0),
            (("a", "b", (0, 1)), 3), (("a", "w", (1, 0)), -1), (("a", "w", (0, 1)), 0), (("b", "w", (1, 5)), -14.5),
            (("a", "b", (10 ** 30, 1)), 3 - Fraction(3 * 10 ** 30, 2)),
        ]:
            self.assertEqual(parting(self.rows, contact), told(due))

    def test_closing(self):
        self.assertIs(closing(self.rows, ()), False)
        self.assertIs(closing((), ()), False)
        falls, stays, grows = ("a", "b", (1, 0)), ("a", "b", (2, 1)), ("a", "b", (0, 1))
        for given, due in [((falls,), True), ((stays,), False), ((grows,), False), ((stays, grows), False),
                           ((stays, grows, falls), True), ((falls, grows), True), ((falls, falls), True)]:
            self.assertIs(closing(self.rows, given), due)

    def test_a_hair(self):
        for speed, due in [(-HAIR, True), (0, False), (HAIR, False)]:
            self.assertIs(closing(world(box("a", 0, 0), box("b", 2, 0, (speed, 9))), (("a", "b", (1, 0)),)), due)

    def test_places_are_not_looked_at(self):
        far = world(box("a", 900, 0, (1, 0)), box("b", -70, 10 ** 30, (Fraction(-1, 2), 3)), wall("w", BOX))
        for contact in [("a", "b", (1, 0)), ("a", "b", (2, 1)), ("b", "w", (1, 5))]:
            self.assertEqual(parting(far, contact), parting(self.rows, contact))
            self.assertIs(closing(far, (contact,)), closing(self.rows, (contact,)))


if __name__ == "__main__":
    unittest.main()
