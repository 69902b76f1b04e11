"""Points 24, 25 (pushes_held) and 26."""

import inspect
import random
import unittest
from fractions import Fraction

from helpers import (
    ANYTHING, BOX, LETTERS, Held, box, broken, do_hold, some_contacts, some_row, some_share, speeds_behind, spot, told,
    values, world,
)
from restbodies import pushes as module
from restbodies.bodies import free, railed, wall
from restbodies.pushes import moment, moving, pushed, pushes_held
from restbodies.solving import find_pushes
from restbodies.spots import STILL

HAIR = Fraction(1, 10 ** 60)


class Interface(unittest.TestCase):

    def test_arguments(self):
        for name, arguments in [
            ("pushed", "(rows, contacts, pushes)"), ("pushes_held", "(rows, contacts, pushes)"), ("moving", "(rows)"),
            ("moment", "(rows)"),
        ]:
            self.assertEqual(str(inspect.signature(getattr(module, name))), arguments)
            self.assertEqual(getattr(module, name).__module__, "restbodies.pushes")


class Pushed(unittest.TestCase):

    def assert_speeds(self, rows, contacts, pushes, due):
        """The rows behind the pushes are as ahead of them but for the speeds of those that are named."""
        behind = pushed(rows, contacts, pushes)
        self.assertIs(type(behind), tuple)
        self.assertEqual(behind, tuple(row[:5] + (due.get(row[0], row[5]),) for row in rows))

    def test_one_push(self):
        rows = world(box("a", 0, 0, (1, 0), mass=2), box("b", 2, 0, (Fraction(1, 2), 5), mass=3), box("c", 9, 9, (7, 7)))
        self.assert_speeds(rows, (("a", "b", (1, 0)),), ((3, 1),), {"a": spot(-0.5, 0), "b": spot(1.5, 5)})
        self.assert_speeds(rows, (("a", "b", (2, -3)),), ((1, 2),),
                           {"a": spot(0.5, 0.75), "b": spot(Fraction(5, 6), 4.5)})
        self.assert_speeds(rows, (("a", "b", (0, -1)),), ((6, 1),), {"a": spot(1, 3), "b": spot(0.5, 3)})
        self.assert_speeds(rows, (("a", "b", (1, 0)),), ((0, 1),), {})
        self.assert_speeds(rows, (("a", "b", (1, 0)),), ((-3, 1),), {"a": spot(2.5, 0), "b": spot(-0.5, 5)})
        self.assert_speeds(rows, (), (), {})
        self.assert_speeds((), (), (), {})

    def test_several_at_one_body(self):
        rows = world(box("a", 0, 0, mass=2), box("b", 0, 0, mass=1), box("c", 0, 0, mass=4))
        given = (("a", "b", (1, 0)), ("b", "c", (0, 1)), ("a", "c", (1, 1)))
        self.assert_speeds(rows, given, ((2, 1), (1, 3), (4, 1)),
                           {"a": spot(-3, -2), "b": spot(2, Fraction(-1, 3)), "c": spot(1, Fraction(13, 12))})

    def test_walls_and_railed_ones(self):
        rows = world(wall("w", BOX), railed("r", BOX, rail=(1, 2), mass=3, speed=spot(1, 2)), wall("v", BOX),
                     railed("s", BOX, rail=(1, 0)))
        self.assert_speeds(rows, (("r", "w", (1, 0)),), ((15, 1),), {"r": spot(0, 0)})
        self.assert_speeds(rows, (("r", "w", (2, -1)),), ((15, 1),), {})
        self.assert_speeds(rows, (("v", "w", (1, 0)),), ((15, 1),), {})
        self.assert_speeds(rows, (("r", "s", (0, 1)),), ((15, 2),), {"r": spot(0, 0)})
        self.assert_speeds(rows, (("r", "s", (1, 1)),), ((5, 1),), {"r": spot(0, 0), "s": spot(5, 0)})

    def test_the_same_contact_several_times_and_any_order(self):
        rows = world(box("a", 0, 0), box("b", 2, 0), box("c", 4, 0))
        one, other = ("a", "b", (1, 0)), ("b", "c", (1, 0))
        due = {"a": spot(-6, 0), "b": spot(2, 0), "c": spot(4, 0)}
        self.assert_speeds(rows, (one, one, other, one), ((1, 1), (2, 1), (4, 1), (3, 1)), due)
        self.assert_speeds(rows, (other, one, one, one), ((4, 1), (3, 1), (1, 1), (2, 1)), due)

    def test_places_are_not_looked_at(self):
        rows = world(box("a", 0, 0), box("b", 900, 0))
        self.assert_speeds(rows, (("a", "b", (0, 1)),), ((1, 1),), {"a": spot(0, -1), "b": spot(0, 1)})
        rows = world(box("a", 0, 0), box("b", 0, 0))
        self.assert_speeds(rows, (("a", "b", (0, 1)),), ((1, 1),), {"a": spot(0, -1), "b": spot(0, 1)})

    def test_many(self):
        dice = random.Random(40)
        for count in [1, 2, 5, 20, 66]:
            for _ in range(10):
                rows = tuple(some_row(dice, name) for name in LETTERS)
                given = some_contacts(dice, rows, count)
                pushes = tuple(some_share(dice) for _ in given)
                speeds = speeds_behind(rows, given, pushes)
                self.assert_speeds(rows, given, pushes, {name: spot(*speeds[name]) for name in speeds})

    def test_long_numbers(self):
        long = 10 ** 399 + 1
        rows = world(box("a", 0, 0, (Fraction(1, long), 0)), box("b", 2, 0))
        self.assert_speeds(rows, (("a", "b", (1, 0)),), ((1, long),), {"a": STILL, "b": spot(Fraction(1, long), 0)})


class PushesHeld(Held, unittest.TestCase):

    rows = world(box("a", 0, 0, (1, 0)), box("b", 2, 0), box("c", 4, 0), box("d", 9, 9, (1, 0)))
    given = (("a", "b", (1, 0)), ("b", "c", (1, 0)))
    right = ((2, 3), (1, 3))

    def refuse(self, pushes):
        self.assert_held(False, pushes_held, self.rows, self.given, pushes)

    def test_right(self):
        self.assertTrue(do_hold(self.rows, self.given, self.right))
        self.assert_held(True, pushes_held, self.rows, self.given, self.right)
        self.assert_held(True, pushes_held, self.rows, self.given[::-1], self.right[::-1])
        self.assert_held(False, pushes_held, self.rows, self.given[::-1], self.right)

    def test_no_contacts(self):
        for rows in (self.rows, ()):
            self.assert_held(True, pushes_held, rows, (), ())
            for thing in ANYTHING:
                if thing != ():
                    self.assert_held(False, pushes_held, rows, (), thing)

    def test_several_that_hold(self):
        # Two contacts that are the same: any two pushes that make up the same sum hold.
        rows = world(box("a", 0, 0, (1, 0)), box("b", 2, 0))
        given = (("a", "b", (1, 0)),) * 2
        for pushes, good in [(((1, 2), (0, 1)), True), (((0, 1), (1, 2)), True), (((1, 4), (1, 4)), True),
                             (((1, 2), (1, 2)), False), (((1, 1), (-1, 2)), False), (((1, 3), (1, 7)), False)]:
            self.assert_held(good, pushes_held, rows, given, pushes)

    def test_below_nought(self):
        rows = world(box("a", 0, 0, (-1, 0)), box("b", 2, 0))
        # By a push of -1/2 the parting is nought, but a push doesn't pull.
        self.assert_held(False, pushes_held, rows, (("a", "b", (1, 0)),), ((-1, 2),))
        self.assert_held(True, pushes_held, rows, (("a", "b", (1, 0)),), ((0, 1),))
        self.refuse(((-2, 3), (1, 3)))
        self.refuse(((2, 3), (-1, 3)))

    def test_a_contact_that_closes_behind_them(self):
        for pushes in [((0, 1), (0, 1)), ((1, 2), (0, 1)), ((1, 2), (1, 4)), ((2, 3), (0, 1)), ((0, 1), (1, 3))]:
            self.refuse(pushes)
        self.refuse((told(Fraction(2, 3) - HAIR), (1, 3)))

    def test_a_push_where_the_parting_behind_is_not_nought(self):
        for pushes in [((1, 1), (1, 2)), ((2, 3), (2, 3)), ((5, 1), (9, 1)), ((1, 1), (1, 1))]:
            self.refuse(pushes)
        self.refuse((told(Fraction(2, 3) + 2 * HAIR), told(Fraction(1, 3) + HAIR)))
        parts = world(box("a", 0, 0), box("b", 2, 0, (1, 0)))
        self.assert_held(True, pushes_held, parts, (("a", "b", (1, 0)),), ((0, 1),))
        self.assert_held(False, pushes_held, parts, (("a", "b", (1, 0)),), ((1, 1),))
        self.assert_held(False, pushes_held, parts, (("a", "b", (1, 0)),), ((1, 10 ** 900),))

    def test_walls(self):
        rows = world(wall("v", BOX), wall("w", BOX))
        # Nothing moves, so that any pushes hold.
        for pushes, good in [(((0, 1),), True), (((7, 3),), True), (((-7, 3),), False)]:
            self.assert_held(good, pushes_held, rows, (("v", "w", (1, 0)),), pushes)

    def test_too_few_and_too_many(self):
        for pushes in [(), self.right[:1], self.right[1:], self.right + ((0, 1),), self.right * 2]:
            self.refuse(pushes)

    def test_wrong_shares(self):
        for pushes in [((4, 6), (1, 3)), ((2, 3), (2, 6)), ((-2, -3), (1, 3)), ([2, 3], (1, 3)), ((2, 3), [1, 3]),
                       ((2, 3), (True, 3)), ((2, 3), None), ("2/3", "1/3"), ((2, 3, 1), (1, 3)), (2, 1), (2, 3),
                       [(2, 3), (1, 3)], {0: (2, 3), 1: (1, 3)}, ((2, 3), "1/3"), ((2, 0), (1, 3))]:
            self.refuse(pushes)
        rows = world(box("a", 0, 0, (2, 0)), box("b", 2, 0))
        self.assert_held(True, pushes_held, rows, (("a", "b", (1, 0)),), ((1, 1),))
        for push in [1, True, (True, 1), (1, True), (True, True), (2, 2), "1", [1, 1], (1,), (1, 1, 1), None, ((1, 1),)]:
            self.assert_held(False, pushes_held, rows, (("a", "b", (1, 0)),), (push,))
        rows = world(box("a", 0, 0), box("b", 2, 0))
        for push in [0, False, (False, 1), (0, True), (0, 2), (0, -1), (), "0", None]:
            self.assert_held(False, pushes_held, rows, (("a", "b", (1, 0)),), (push,))

    def test_anything(self):
        for pushes in broken(self.right) + ANYTHING:
            self.refuse(pushes)
        for thing in ANYTHING:
            self.refuse((thing, (1, 3)))
            self.refuse((thing, thing))

    def test_long_shares(self):
        dice = random.Random(41)
        rows = tuple(free(name, BOX, mass=at + 1, speed=spot(at, 1)) for at, name in enumerate(LETTERS))
        given = some_contacts(dice, rows, 66, 9)
        long = tuple(told(Fraction(dice.randrange(1, 10 ** 999), dice.randrange(1, 10 ** 999))) for _ in given)
        self.assert_held(False, pushes_held, rows, given, long)

    def test_many(self):
        dice = random.Random(42)
        good = 0
        for _ in range(200):
            rows = tuple(some_row(dice, name, 3, 2) for name in LETTERS[:dice.randint(2, 5)])
            given = some_contacts(dice, rows, dice.randint(1, 5))
            found = find_pushes(rows, given)
            self.assert_held(True, pushes_held, rows, given, found)
            at = dice.randrange(len(given))
            for push in [(0, 1), (1, 1), told(Fraction(*found[at]) + HAIR), told(Fraction(*found[at]) * 2)]:
                changed = found[:at] + (push,) + found[at + 1:]
                due = do_hold(rows, given, changed)
                good += due
                self.assert_held(due, pushes_held, rows, given, changed)
        self.assertTrue(100 < good < 700, good)


class Sums(unittest.TestCase):

    rows = world(box("a", 0, 0, (1, Fraction(-1, 2)), mass=3), wall("w", BOX),
                 railed("r", BOX, rail=(1, 2), mass=2, speed=spot(Fraction(-1, 3), Fraction(-2, 3))))

    def test_by_hand(self):
        self.assertEqual(moving(self.rows), told(Fraction(15, 4) + Fraction(10, 9)))
        self.assertEqual(moment(self.rows), spot(3 - Fraction(2, 3), Fraction(-3, 2) - Fraction(4, 3)))
        self.assertEqual(moving(self.rows[:1]), (15, 4))
        self.assertEqual(moment(self.rows[:1]), ((3, 1), (-3, 2)))

    def test_walls_and_no_rows(self):
        for rows in [(), (wall("w", BOX),), world(wall("v", BOX), wall("w", BOX)), (box("a", 5, 5, mass=9),)]:
            self.assertEqual(moving(rows), (0, 1))
            self.assertEqual(moment(rows), STILL)

    def test_opposite_speeds(self):
        rows = world(box("a", 0, 0, (1, 2)), box("b", 9, 0, (-1, -2)))
        self.assertEqual((moving(rows), moment(rows)), ((10, 1), STILL))

    def test_many(self):
        dice = random.Random(43)
        for _ in range(30):
            rows = tuple(some_row(dice, name) for name in LETTERS)
            speeds = [(row[2], *values(row[5])) for row in rows]
            self.assertEqual(moving(rows), told(sum(mass * (x * x + y * y) for mass, x, y in speeds)))
            self.assertEqual(moment(rows), spot(sum(mass * x for mass, x, y in speeds),
                                                sum(mass * y for mass, x, y in speeds)))

    def test_pushes_between_free_bodies_keep_the_moment(self):
        rows = world(box("a", 0, 0, (5, 1), mass=2), box("b", 2, 0, mass=7), box("c", 4, 0, (-1, 0), mass=3))
        given = (("a", "b", (1, 0)), ("b", "c", (2, 1)))
        behind = pushed(rows, given, find_pushes(rows, given))
        self.assertEqual(moment(behind), moment(rows))
        self.assertLess(Fraction(*moving(behind)), Fraction(*moving(rows)))


if __name__ == "__main__":
    unittest.main()
