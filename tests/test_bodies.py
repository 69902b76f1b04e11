"""Points 12, 13, 14 and 39 (a body's line)."""

import copy
import inspect
import unittest
from fractions import Fraction

from restbodies import bodies
from restbodies.bodies import Body, Free, Railed, Wall, body_of, free, look_row, railed, wall
from restbodies.bounds import FIGURES, MASS, REACH
from restbodies.errors import BadRow
from restbodies.spots import STILL

BOX = ((0, 0), (2, 0), (2, 1), (0, 1))
BEGUN = [[2, 1], [0, 1], [0, 0], [2, 0]]
PLACE = ((1, 2), (-1, 3))
SPEED = ((-5, 2), (7, 1))
LONGEST = 10 ** FIGURES - 1
POWER = 10 ** (FIGURES - 1)

WALL = ("floor", BOX, 0, None, PLACE, STILL)
FREE = ("ball", BOX, 3, None, PLACE, SPEED)
RAILED = ("cart", BOX, 2, (1, -2), PLACE, ((3, 2), (-3, 1)))
PARTS = ["name", "corners", "mass", "rail", "place", "speed"]
BAD = {"name": "Ball", "corners": BOX[::-1], "mass": -1, "rail": (2, 4), "place": [], "speed": ((2, 4), (0, 1))}

THINGS = [None, True, False, 1, "x", "", (), [], {}, (1, 2), [1, 2], ((1, 2),), {"a": 1}, ((1, 2), (1, 2), (1, 2)),
          [(1, 2), (1, 2)], ((True, 1), (0, 1)), ((0, 1), (0, True)), ((0, 2), (0, 1)), ((0, 1), (4, 2)),
          ((1, 0), (0, 1)), ((1, -1), (0, 1)), (0, 0), ((0, 1), None), ((0, 1), [0, 1])]


def changed(row, **parts):
    return tuple(parts.get(part, old) for part, old in zip(PARTS, row))


class Cases(unittest.TestCase):

    def assert_bad(self, part, call, *given, **named):
        with self.subTest(part=part, given=repr(given)[:100], named=repr(named)[:100]):
            with self.assertRaises(BadRow) as caught:
                call(*given, **named)
            self.assertIs(type(caught.exception), BadRow)
            self.assertEqual(caught.exception.part, part)


class Interface(unittest.TestCase):

    def test_arguments(self):
        still = "((0, 1), (0, 1))"
        for name, arguments in [
            ("look_row", "(thing)"), ("wall", f"(name, corners, *, at={still})"),
            ("free", f"(name, corners, *, mass=1, at={still}, speed={still})"),
            ("railed", f"(name, corners, *, rail, mass=1, at={still}, speed={still})"), ("body_of", "(row)"),
        ]:
            self.assertEqual(str(inspect.signature(getattr(bodies, name))), arguments)
            self.assertEqual(getattr(bodies, name).__module__, "restbodies.bodies")

    def test_each_class_has_each_method_itself(self):
        for kind in (Body, Wall, Free, Railed):
            self.assertEqual(kind.__module__, "restbodies.bodies")
            for name, arguments in [("answer", "(self, push)"), ("kick", "(self, pull)"), ("may", "(self, speed)")]:
                self.assertIn(name, vars(kind))
                self.assertEqual(str(inspect.signature(vars(kind)[name])), arguments)
        for kind in (Wall, Free, Railed):
            self.assertEqual(kind.__bases__, (Body,))


class LookRow(Cases):

    def test_each_kind(self):
        for row in (WALL, FREE, RAILED):
            self.assertEqual(look_row(row), row)
            self.assertIs(type(look_row(row)), tuple)

    def test_shape_in_any_form(self):
        for row in (WALL, FREE, RAILED):
            given = changed(row, corners=BEGUN)
            kept = copy.deepcopy(given)
            made = look_row(given)
            self.assertEqual(made, row)
            self.assertEqual({type(made[1])} | {type(corner) for corner in made[1]}, {tuple})
            self.assertEqual(given, kept)

    def test_form(self):
        for thing in THINGS + [list(FREE), FREE[:5], FREE + (1,), [FREE], (FREE,), "abcdef", {0: FREE}]:
            self.assert_bad("form", look_row, thing)

    def test_name(self):
        for name in ["a", "z", "abcdefghijkl", "mnopqrstuvwx", "yz"]:
            self.assertEqual(look_row(changed(FREE, name=name))[0], name)
        for name in ["", "abcdefghijklm", "A", "aB", "a b", " a", "a ", "a1", "a_b", "a-b", "a\n", "\n", "`", "{",
                     "\u00e4", "a" * 3000, 1, True, None, ("a",), ["a"], {"a": 1}, ("a", "b")]:
            self.assert_bad("name", look_row, changed(FREE, name=name))

    def test_corners(self):
        for corners in THINGS + [BOX[::-1], BOX[:2], BOX + ((0, 0),), ((0, 0), (2, 0), (0, True)),
                                 ((0, 0), (REACH + 1, 0), (0, 1)), "abc"]:
            for row in (WALL, FREE, RAILED):
                self.assert_bad("corners", look_row, changed(row, corners=corners))

    def test_mass(self):
        for mass in (1, 2, MASS):
            self.assertEqual(look_row(changed(FREE, mass=mass))[2], mass)
            self.assertEqual(look_row(changed(RAILED, mass=mass))[2], mass)
        self.assertEqual(look_row(changed(WALL, mass=0))[2], 0)
        for mass in [-1, -MASS, MASS + 1, 10 ** 900, True, False, None, "1", (1, 1), [1], {}, (0, 1), "0"]:
            for row in (WALL, FREE, RAILED):
                self.assert_bad("mass", look_row, changed(row, mass=mass))

    def test_rail(self):
        still = changed(RAILED, speed=STILL)
        for rail in [None, (1, 0), (0, -1), (-3, 5), (REACH, 1), (-REACH, REACH - 1), (1, -REACH), (-1, REACH)]:
            self.assertEqual(look_row(changed(still, rail=rail))[3], rail)
        for rail in [(0, 0), (2, 4), (0, 2), (-3, 3), (REACH + 1, 1), (1, REACH + 1), (-REACH - 1, 1), (1, -REACH - 1),
                     [1, 0], (1,), (1, 2, 3), (True, 0), (0, True), (1, False), (1, None), True, False, 0, 1, "", "10",
                     (), [], {}, ((1, 1), (0, 1)), ("1", "0")]:
            self.assert_bad("rail", look_row, changed(still, rail=rail))
            self.assert_bad("rail", look_row, changed(WALL, rail=rail))
        self.assert_bad("rail", look_row, changed(WALL, rail=(1, 0)))
        self.assert_bad("rail", look_row, changed(FREE, rail=False))

    def test_place(self):
        for place in THINGS:
            for row in (WALL, FREE, RAILED):
                self.assert_bad("place", look_row, changed(row, place=place))

    def test_speed(self):
        for speed in THINGS:
            for row in (WALL, FREE, RAILED):
                self.assert_bad("speed", look_row, changed(row, speed=speed))

    def test_speed_of_a_wall(self):
        for speed in [SPEED, ((1, 1), (0, 1)), ((0, 1), (-1, 10 ** 300))]:
            self.assert_bad("speed", look_row, changed(WALL, speed=speed))

    def test_speed_of_a_railed_one(self):
        for speed in [STILL, ((1, 1), (-2, 1)), ((-1, 3), (2, 3)), ((10 ** 50, 7), (-2 * 10 ** 50, 7))]:
            self.assertEqual(look_row(changed(RAILED, speed=speed))[5], speed)
        for speed in [((1, 1), (2, 1)), ((2, 1), (1, 1)), ((0, 1), (1, 1)), ((1, 1), (0, 1)),
                      ((1, 1), (-2 * 10 ** 50 + 1, 10 ** 50))]:
            self.assert_bad("speed", look_row, changed(RAILED, speed=speed))

    def test_just_as_many_figures(self):
        long = [(LONGEST, 1), (-LONGEST, 1), (1, LONGEST), (-1, LONGEST), (LONGEST, POWER), (POWER, LONGEST)]
        for one in long:
            for spot in [(one, (0, 1)), ((0, 1), one), (one, one)]:
                for row in (WALL, FREE, RAILED):
                    self.assertEqual(look_row(changed(row, place=spot))[4], spot)
                self.assertEqual(look_row(changed(FREE, speed=spot))[5], spot)
        half = (LONGEST - 1) // 2
        for speed in [((half, 1), (-2 * half, 1)), ((1, LONGEST), (-2, LONGEST))]:
            self.assertEqual(look_row(changed(RAILED, speed=speed))[5], speed)

    def test_one_figure_more(self):
        more = LONGEST + 1
        for one in [(more, 1), (-more, 1), (1, more), (-1, more), (more, 3), (3, more), (10 ** 1000 - 1, 10 ** 999)]:
            for spot in [(one, (0, 1)), ((0, 1), one), (one, one)]:
                for row in (WALL, FREE, RAILED):
                    self.assert_bad("place", look_row, changed(row, place=spot))
                self.assert_bad("speed", look_row, changed(FREE, speed=spot))
        self.assert_bad("speed", look_row, changed(RAILED, speed=((more // 2, 1), (-more, 1))))
        self.assert_bad("speed", look_row, changed(RAILED, speed=((1, more), (-1, more // 2))))
        self.assert_bad("speed", look_row, changed(RAILED, rail=(1, 1), speed=((-7, more), (-7, more))))

    def test_the_first_that_is_wrong(self):
        for row in (WALL, FREE, RAILED):
            for at, first in enumerate(PARTS):
                for later in range(at, len(PARTS)):
                    wrong = {part: BAD[part] for part in {first, *PARTS[later:]}}
                    self.assert_bad(first, look_row, changed(row, **wrong))


class Makers(Cases):

    def test_what_is_left_out(self):
        self.assertEqual(wall("floor", BOX), ("floor", BOX, 0, None, STILL, STILL))
        self.assertEqual(free("ball", BOX), ("ball", BOX, 1, None, STILL, STILL))
        self.assertEqual(railed("cart", BOX, rail=(1, 2)), ("cart", BOX, 1, (1, 2), STILL, STILL))

    def test_all_told_in_any_order(self):
        self.assertEqual(wall("floor", BEGUN, at=PLACE), WALL)
        self.assertEqual(free("ball", BEGUN, mass=3, at=PLACE, speed=SPEED), FREE)
        self.assertEqual(free("ball", BEGUN, speed=SPEED, mass=3, at=PLACE), FREE)
        self.assertEqual(railed("cart", BEGUN, rail=(1, -2), mass=2, at=PLACE, speed=RAILED[5]), RAILED)
        self.assertEqual(railed("cart", BEGUN, speed=RAILED[5], at=PLACE, mass=2, rail=(1, -2)), RAILED)

    def test_what_is_handed_in_stays(self):
        given = copy.deepcopy(BEGUN)
        wall("floor", given)
        free("ball", given)
        railed("cart", given, rail=(0, 1))
        self.assertEqual(given, BEGUN)

    def test_each_thing_wrong_alone(self):
        for name in ["", "A", "abcdefghijklm", None, 3]:
            self.assert_bad("name", wall, name, BOX)
            self.assert_bad("name", free, name, BOX)
            self.assert_bad("name", railed, name, BOX, rail=(1, 0))
        for corners in [None, (), BOX[::-1], "abc"]:
            self.assert_bad("corners", wall, "a", corners)
            self.assert_bad("corners", free, "a", corners)
            self.assert_bad("corners", railed, "a", corners, rail=(1, 0))
        for mass in [0, -1, MASS + 1, True, False, None, "1", (1, 1)]:
            self.assert_bad("mass", free, "a", BOX, mass=mass)
            self.assert_bad("mass", railed, "a", BOX, rail=(1, 0), mass=mass)
        for rail in [None, (0, 0), (2, 2), [1, 0], (REACH + 1, 1), True, 0, ""]:
            self.assert_bad("rail", railed, "a", BOX, rail=rail)
        for spot in THINGS:
            self.assert_bad("place", wall, "a", BOX, at=spot)
            self.assert_bad("place", free, "a", BOX, at=spot)
            self.assert_bad("place", railed, "a", BOX, rail=(1, 0), at=spot)
            self.assert_bad("speed", free, "a", BOX, speed=spot)
            self.assert_bad("speed", railed, "a", BOX, rail=(1, 0), speed=spot)
        self.assert_bad("speed", railed, "a", BOX, rail=(1, 0), speed=((1, 1), (1, 1)))
        more = ((1, LONGEST + 1), (0, 1))
        self.assert_bad("place", wall, "a", BOX, at=more)
        self.assert_bad("place", free, "a", BOX, at=more)
        self.assert_bad("speed", free, "a", BOX, speed=more)
        self.assert_bad("speed", railed, "a", BOX, rail=(1, 0), speed=more)

    def test_masses_taken(self):
        self.assertEqual(free("a", BOX, mass=MASS)[2], MASS)
        self.assertEqual(railed("a", BOX, rail=(1, 0), mass=MASS)[2], MASS)

    def test_wrong_with_another_one(self):
        self.assert_bad("name", wall, "", None, at=None)
        self.assert_bad("corners", wall, "a", None, at=None)
        self.assert_bad("name", free, "", None, mass=0)
        self.assert_bad("corners", free, "a", None, mass=0)
        self.assert_bad("mass", free, "a", BOX, mass=0, at=None, speed=None)
        self.assert_bad("place", free, "a", BOX, at=None, speed=None)
        self.assert_bad("name", railed, "", BOX, rail=None, mass=0)
        self.assert_bad("corners", railed, "a", (), rail=None, mass=0)
        self.assert_bad("corners", railed, "a", (), rail=None)
        self.assert_bad("mass", railed, "a", BOX, rail=None, mass=0)
        self.assert_bad("mass", railed, "a", BOX, rail=(2, 2), mass=0, at=None)
        self.assert_bad("mass", railed, "a", BOX, rail=None, mass=True)
        self.assert_bad("rail", railed, "a", BOX, rail=None, at=None, speed=None)
        self.assert_bad("rail", railed, "a", BOX, rail=(0, 0), at=None, speed=None)
        self.assert_bad("rail", railed, "a", BOX, rail=None, speed=SPEED)
        self.assert_bad("place", railed, "a", BOX, rail=(1, 0), at=None, speed=SPEED)


class Objects(unittest.TestCase):

    def test_kind_by_the_row(self):
        for row, kind in [(WALL, Wall), (FREE, Free), (RAILED, Railed)]:
            made = body_of(row)
            self.assertIs(type(made), kind)
            self.assertIsInstance(made, Body)
            self.assertEqual((made.name, made.mass, made.row), (row[0], row[2], row))
            self.assertEqual(kind(row), made)

    def test_answer(self):
        push = ((3, 2), (-6, 1))
        self.assertEqual(body_of(WALL).answer(push), STILL)
        self.assertEqual(body_of(FREE).answer(push), ((1, 2), (-2, 1)))
        self.assertEqual(body_of(changed(FREE, mass=1)).answer(push), push)
        # along((1, -2), push) is 27/2; over 2 * 5 that is 27/20
        self.assertEqual(body_of(RAILED).answer(push), ((27, 20), (-27, 10)))
        self.assertEqual(body_of(RAILED).answer(((2, 1), (1, 1))), STILL)

    def test_kick(self):
        pull = ((3, 2), (-6, 1))
        self.assertEqual(body_of(WALL).kick(pull), STILL)
        self.assertEqual(body_of(FREE).kick(pull), pull)
        self.assertEqual(body_of(RAILED).kick(pull), ((27, 10), (-27, 5)))
        self.assertEqual(body_of(RAILED).kick(STILL), STILL)

    def test_answer_and_kick_of_long_numbers(self):
        push = ((LONGEST, POWER), (-POWER, LONGEST))
        x, y = [Fraction(*part) for part in push]
        made = body_of(changed(RAILED, rail=(-REACH, 999999), mass=MASS, speed=STILL))
        part = (-REACH * x + 999999 * y) / (REACH * REACH + 999999 * 999999)
        for told, value in zip(made.kick(push), (-REACH * part, 999999 * part)):
            self.assertEqual(told, (value.numerator, value.denominator))
        for told, value in zip(made.answer(push), (-REACH * part / MASS, 999999 * part / MASS)):
            self.assertEqual(told, (value.numerator, value.denominator))

    def test_may(self):
        any_speed = ((1, 3), (5, 1))
        self.assertIs(body_of(WALL).may(STILL), True)
        self.assertIs(body_of(WALL).may(any_speed), False)
        self.assertIs(body_of(WALL).may(((0, 1), (1, 1))), False)
        self.assertIs(body_of(FREE).may(STILL), True)
        self.assertIs(body_of(FREE).may(any_speed), True)
        self.assertIs(body_of(RAILED).may(STILL), True)
        self.assertIs(body_of(RAILED).may(((1, 3), (-2, 3))), True)
        self.assertIs(body_of(RAILED).may(((-1, 3), (2, 3))), True)
        self.assertIs(body_of(RAILED).may(((1, 3), (2, 3))), False)
        self.assertIs(body_of(RAILED).may(any_speed), False)

    def test_equal(self):
        rows = [WALL, FREE, RAILED, changed(FREE, name="other"), changed(FREE, mass=4), changed(FREE, place=STILL),
                changed(FREE, speed=STILL), changed(FREE, mass=0, speed=STILL), changed(WALL, corners=BOX[:3])]
        for one in rows:
            for other in rows:
                self.assertIs(body_of(one) == body_of(copy.deepcopy(other)), one == other)
                self.assertIs(body_of(one) != body_of(copy.deepcopy(other)), one != other)

    def test_not_equal_to_what_is_no_body(self):
        for row in (WALL, FREE, RAILED):
            for thing in [row, row[0], str(body_of(row)), None, True, 0, [], {}, ()]:
                self.assertIs(body_of(row) == thing, False)
                self.assertIs(thing == body_of(row), False)
                self.assertIs(body_of(row) != thing, True)

    def test_line(self):
        self.assertEqual(str(body_of(WALL)), "wall floor 1/2 -1/3 0,0 2,0 2,1 0,1")
        self.assertEqual(str(body_of(FREE)), "free ball 3 1/2 -1/3 -5/2 7 0,0 2,0 2,1 0,1")
        self.assertEqual(str(body_of(RAILED)), "rail cart 2 1 -2 1/2 -1/3 3/2 -3 0,0 2,0 2,1 0,1")
        small = wall("a", ((0, 0), (0, -1), (2, 0)))
        self.assertEqual(str(body_of(small)), "wall a 0 0 0,-1 2,0 0,0")

    def test_line_of_long_numbers(self):
        row = free("a", BOX, mass=MASS, at=((LONGEST, POWER), (0, 1)), speed=((0, 1), (-1, LONGEST)))
        self.assertEqual(str(body_of(row)), f"free a 1000000 {LONGEST}/{POWER} 0 0 -1/{LONGEST} 0,0 2,0 2,1 0,1")


if __name__ == "__main__":
    unittest.main()
