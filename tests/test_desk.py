"""Points 41 and 42."""

import inspect
import random
import unittest
from fractions import Fraction

from helpers import ANYTHING, box, spot, world
from restbodies import desk as module
from restbodies.bodies import free, railed, wall
from restbodies.bounds import DEEDS, LINES, MEETINGS
from restbodies.desk import Desk
from restbodies.errors import (
    BadCount, BadLine, BadRow, BadSpan, BadState, BodyError, Crowded, Full, Long, NoBody, Nothing, Over, TooFine, Twice,
)
from restbodies.spots import STILL
from restbodies.texts import state_text
from restbodies.worlds import World

DOWN = spot(0, -1)
NINES = "9" * 400
TENS = "1" + "0" * 400
FLOOR = "wall floor 0 0 -9,-1 9,-1 9,0 -9,0"
BALL = "free ball 3 1/2 5 0 -1 0,0 2,0 2,1 0,1"
CART = "rail cart 2 1 0 -5 0 1/3 0 0,0 2,0 2,1 0,1"


def desk_with(*lines, **more):
    made = Desk(**more)
    for line in lines:
        made.said(line)
    return made


class Lines(unittest.TestCase):

    def assert_said(self, desk, line, due):
        ahead = desk.entries()
        told = desk.said(line)
        self.assertIs(type(told), str)
        self.assertEqual(told, due)
        self.assertEqual(desk.entries(), ahead + [("in", line), ("out", line, True)])

    def assert_refused(self, kind, desk, line, **fields):
        ahead, state = desk.entries(), desk.state()
        with self.subTest(line[:200]):
            with self.assertRaises(BodyError) as caught:
                desk.said(line)
            self.assertIs(type(caught.exception), kind)
            self.assertEqual(vars(caught.exception), fields)
            self.assertEqual(desk.state(), state)
            self.assertEqual(desk.entries(), ahead + [("in", line), ("out", line, False)])


class Interface(unittest.TestCase):

    def test_arguments(self):
        self.assertEqual(str(inspect.signature(Desk)), "(*, pull=((0, 1), (0, 1)), give=(0, 1))")
        for name, arguments in [("said", "(self, line)"), ("entries", "(self)"), ("state", "(self)")]:
            self.assertIn(name, vars(Desk))
            self.assertEqual(str(inspect.signature(vars(Desk)[name])), arguments)
        self.assertEqual(module.Desk.__module__, "restbodies.desk")

    def test_making(self):
        self.assertEqual(Desk().state(), (STILL, (0, 1), (0, 1), ()))
        self.assertEqual(Desk(give=(1, 2), pull=DOWN).state(), (DOWN, (1, 2), (0, 1), ()))
        self.assertEqual(Desk().entries(), [])
        for thing in [thing for thing in ANYTHING if thing not in (STILL, (0, 1))]:
            with self.assertRaises(BadState):
                Desk(pull=thing)
            with self.assertRaises(BadState):
                Desk(give=thing)
        with self.assertRaises(TypeError):
            Desk(DOWN)


class Answers(Lines):

    def test_bodies(self):
        desk = Desk()
        self.assert_said(desk, FLOOR, "added floor")
        self.assert_said(desk, BALL, "added ball")
        self.assert_said(desk, CART, "added cart")
        corners = ((0, 0), (2, 0), (2, 1), (0, 1))
        self.assertEqual(desk.state()[3], world(
            wall("floor", ((-9, -1), (9, -1), (9, 0), (-9, 0))),
            free("ball", corners, mass=3, at=spot(0.5, 5), speed=spot(0, -1)),
            railed("cart", corners, rail=(1, 0), mass=2, at=spot(-5, 0), speed=((1, 3), (0, 1)))))
        self.assert_said(desk, "free d 1 50 0 0 0 1,0 0,1 -1,0 0,-1", "added d")

    def test_take_shove_turn(self):
        desk = desk_with(FLOOR, BALL, CART)
        self.assert_said(desk, "take cart", "taken cart")
        self.assert_said(desk, "shove ball 3 -1/2", "shoved ball")
        self.assertEqual(desk.state()[3][0][5], ((1, 1), (-7, 6)))
        self.assert_said(desk, "turn", "turned")
        self.assertEqual(desk.state()[3][0][5], ((-1, 1), (7, 6)))
        self.assert_said(desk, "shove floor 7 7", "shoved floor")

    def test_beat(self):
        desk = desk_with(FLOOR, BALL)
        self.assert_said(desk, "beat 1/3", "clock 1/3")
        self.assert_said(desk, "beat 2/3 0", "clock 1")
        self.assert_said(desk, "beat 9 1", "clock 10")
        self.assert_said(desk, f"beat 1 {MEETINGS}", "clock 11")
        self.assertEqual(desk.state()[3][0][4:], (spot(0.5, 0), STILL))

    def test_back(self):
        desk = desk_with(FLOOR, BALL, "shove ball 0 1", "turn", "beat 1", "take floor")
        for word in ["take", "beat", "turn", "shove", "add", "add"]:
            self.assert_said(desk, "back", f"back {word}")
        self.assert_refused(Nothing, desk, "back")
        self.assertEqual(desk.state()[3], ())

    def test_show(self):
        desk = Desk(pull=DOWN, give=(1, 2))
        self.assert_said(desk, "show", "world 0 -1 1/2 0")
        desk = desk_with(FLOOR, BALL, CART, "beat 1", pull=DOWN)
        self.assert_said(desk, "show", state_text(desk.state()))
        self.assertEqual(desk.said("show").split("\n")[3], FLOOR)

    def test_stand(self):
        desk = desk_with(FLOOR, "free a 1 0 0 0 0 0,0 2,0 2,2 0,2", pull=DOWN)
        self.assert_said(desk, "stand", "stands")
        desk.said("shove a 5 5")
        self.assert_said(desk, "stand", "stands")
        desk.said("free b 1 0 4 0 0 0,0 2,0 2,2 0,2")
        self.assert_said(desk, "stand", "parts")
        self.assert_said(Desk(pull=DOWN), "stand", "stands")
        self.assert_said(desk_with(FLOOR, "free a 1 0 9 1 1 0,0 2,0 2,2 0,2"), "stand", "stands")

    def test_first(self):
        desk = desk_with(FLOOR, BALL)
        for names in ["ball floor", "floor ball"]:
            self.assert_said(desk, f"first {names} 9", "meets 5")
            self.assert_said(desk, f"first {names} 5", "clear")
            self.assert_said(desk, f"first {names} 0", "clear")
            self.assert_said(desk, f"first {names} {NINES}", "meets 5")
        desk = desk_with("free a 1 0 0 2/7 0 0,0 2,0 2,2 0,2", "free b 2 5/2 0 -1 0 0,0 2,0 2,2 0,2")
        self.assert_said(desk, "first a b 1", "meets 7/18")
        self.assert_said(desk, "first b a 7/18", "clear")

    def test_first_of_two_that_touch(self):
        desk = desk_with(FLOOR, "free a 1 0 0 0 -1 0,0 2,0 2,2 0,2")
        self.assert_said(desk, "first a floor 1", "meets 0")
        self.assert_said(desk, "first a floor 0", "clear")

    def test_first_with_long_numbers(self):
        dice = random.Random(130)
        parts = [Fraction(dice.randrange(10 ** 397), dice.randrange(10 ** 398, 10 ** 399)) for _ in range(8)]
        x, y, u, v = [3 + part for part in parts[:4]]
        desk = desk_with(f"free a 1 {x} {y} {u} {v} -1,0 0,-1 1,0 0,1",
                         "free b 1 {} {} {} {} -1,0 0,-1 1,0 0,1".format(*[-part for part in parts[4:]]))
        self.assert_said(desk, "first a b 99999", "clear")
        desk.said("turn")
        told = desk.said("first a b 99999")
        self.assertRegex(told, "^meets [0-9]+/[0-9]+$")
        self.assertGreater(len(told), 6000)
        apart = x + y + sum(parts[4:6]) - 2
        self.assertEqual(Fraction(told[6:]), apart / (u + v + sum(parts[6:])))


class Refusals(Lines):

    def test_bad_lines(self):
        desk = desk_with(FLOOR, BALL, CART)
        wrong = ["", "take ", "wall  0 90 0,0 1,0 0,1", " ", "\n", "x", "Turn", "turn ", " turn", "turn turn", "turn\n", "\nturn", "take", "take a b", "take  ball",
                 "take ball ", "take ball\n", "take\nball", "shove ball", "shove ball 1", "shove ball 1 2 3", "shove ball 1 x",
                 "shove ball +1 2", "shove ball 2/4 1", "shove ball 1 01", "beat", "beat x", "beat 1 x", "beat 1 1 1", "beat 1/1",
                 "beat 1 1/2", "beat 1 +1", "beat 01", "beat 1 01", "beat " + TENS, "beat 1 " + TENS, "back 1", "back back",
                 "show all", "stand up", "first", "first ball", "first ball floor", "first ball floor x", "first ball floor 1 1",
                 "first ball ball 1", "first zz zz 1", "first ball ball -1", "first zz zz x", "add ball", "world 0 0 0 0",
                 "story", "state", "wall", "wall w", "wall w 0", "wall w 0 x 0,0 1,0 0,1", "free f 0 0 0 0 0 0,0 1,0 0,1",
                 "free f 1 0 0 0 0,0 1,0 0,1", "rail r 0 1 0 0 0 0 0 0,0 1,0 0,1", "rail r 1 1/2 0 0 0 0 0 0,0 1,0 0,1",
                 "wall w 0 0 0,0 1,0 0,1,", "wall w 0 0 0,0 1,0 0,1 ", "wall w 0 0 0,0 1,0  0,1", "wall w 0 0 0,0 1,0\n0,1",
                 "shove zz 1 x", "take ball\n\n", "first zz yy +1", "0" * 4000, "turn" * 1000, " " * 4000, "\n" * 4000,
                 "~" * 4000]
        for line in wrong:
            if len(desk.entries()) >= 2 * LINES - 2:
                desk = desk_with(FLOOR, BALL, CART)
            self.assert_refused(BadLine, desk, line)

    def test_the_deeds_refusals(self):
        desk = desk_with(FLOOR, BALL, CART)
        self.assert_refused(NoBody, desk, "take Ball")
        self.assert_refused(NoBody, desk, "take !~")
        self.assert_refused(NoBody, desk, "shove x 1 1")
        self.assert_refused(TooFine, desk, f"shove ball 1/{NINES} 0")
        self.assert_refused(BadSpan, desk, "beat 0")
        self.assert_refused(BadSpan, desk, "beat -1/2")
        self.assert_refused(BadSpan, desk, "beat 0 -1")
        self.assert_refused(BadCount, desk, "beat 1 -1")
        self.assert_refused(BadCount, desk, f"beat 1 {MEETINGS + 1}")
        self.assert_refused(BadCount, desk, f"beat 1 {NINES}")
        self.assert_refused(Crowded, desk, "beat 9 0", clock=(5, 1))
        self.assert_refused(TooFine, desk, f"beat 1/{NINES}")
        self.assert_refused(Twice, desk, BALL, name="ball")
        self.assert_refused(Over, desk, BALL.replace("ball", "box"), one="ball", other="box")
        self.assert_refused(BadRow, desk, BALL.replace("ball", "Ball"), part="name")
        self.assert_refused(BadRow, desk, "wall w 0 0", part="corners")
        self.assert_refused(BadRow, desk, "free f -1 0 0 0 0 0,0 1,0 0,1", part="mass")
        self.assert_refused(BadRow, desk, "rail r 1 2 2 0 9 0 0 0,0 1,0 0,1", part="rail")
        self.assert_refused(BadRow, desk, "rail r 1 1 0 0 9 0 1 0,0 1,0 0,1", part="speed")
        for at, name in enumerate("abcdefghi"):
            self.assert_said(desk, f"wall {name} {5 * at} 90 0,0 1,0 0,1", f"added {name}")
        self.assert_refused(Full, desk, "wall z 0 99 0,0 1,0 0,1")

    def test_first_refuses(self):
        desk = desk_with(FLOOR, BALL)
        self.assert_refused(NoBody, desk, "first ball x 1")
        self.assert_refused(NoBody, desk, "first x floor 1")
        self.assert_refused(NoBody, desk, "first x floor -1")
        self.assert_refused(NoBody, desk, "first ball x -1")
        self.assert_refused(BadSpan, desk, "first ball floor -1")
        self.assert_refused(BadSpan, desk, "first ball floor -1/9")
        self.assert_refused(BadLine, desk, "first ball ball 1")
        self.assert_refused(BadLine, desk, "first x x -1")

    def test_the_worlds_long(self):
        desk = desk_with(FLOOR, *["turn"] * (DEEDS - 1))
        self.assert_refused(Long, desk, "turn")
        self.assert_refused(Long, desk, "take x")
        self.assert_refused(Long, desk, "beat 0")
        self.assert_refused(Long, desk, "wall w 0 0")
        self.assert_refused(BadLine, desk, "take")
        self.assert_refused(BadLine, desk, "wall w 0 x")
        self.assert_said(desk, "stand", "stands")
        self.assert_refused(NoBody, desk, "first a b 1")
        self.assert_said(desk, "back", "back turn")
        self.assert_said(desk, "turn", "turned")


class Ends(Lines):

    def test_entries_are_built_anew(self):
        desk = desk_with(FLOOR)
        told = desk.entries()
        self.assertIs(type(told), list)
        self.assertTrue(all(type(entry) is tuple for entry in told))
        told.clear()
        self.assertEqual(desk.entries(), [("in", FLOOR), ("out", FLOOR, True)])
        self.assertIs(desk.entries()[1][2], True)

    def test_refused_ones_too(self):
        desk = Desk()
        for line in ["x", "turn", "back", "back", "take a"]:
            try:
                desk.said(line)
            except BodyError:
                pass
        self.assertEqual([entry[1:] for entry in desk.entries()[1::2]], [
            ("x", False), ("turn", True), ("back", True), ("back", False), ("take a", False)])
        self.assertEqual([entry for entry in desk.entries()[::2]], [
            ("in", line) for line in ["x", "turn", "back", "back", "take a"]])

    def test_too_many_lines(self):
        for first_line, wrong in [("show", False), ("bad", True)]:
            desk = Desk()
            for _ in range(LINES):
                try:
                    desk.said(first_line)
                except BadLine:
                    self.assertTrue(wrong)
            ahead = desk.entries()
            self.assertEqual(len(ahead), 2 * LINES)
            self.assertEqual(ahead[-1], ("out", first_line, not wrong))
            for line in ["turn", "bad", "", "show", FLOOR, "x" * 4000, "back"]:
                with self.assertRaises(Long):
                    desk.said(line)
                self.assertEqual(desk.entries(), ahead)
                self.assertEqual(desk.state(), (STILL, (0, 1), (0, 1), ()))

    def test_a_desk_keeps_a_world(self):
        desk = desk_with(FLOOR, BALL, "beat 1", "shove ball 1 1", "beat 7/2", pull=DOWN, give=(1, 2))
        made = World(pull=DOWN, give=(1, 2))
        made.add(wall("floor", ((-9, -1), (9, -1), (9, 0), (-9, 0))))
        made.add(box("ball", 0.5, 5, (0, -1), shape=((0, 0), (2, 0), (2, 1), (0, 1)), mass=3))
        made.beat()
        made.shove("ball", spot(1, 1))
        made.beat((7, 2))
        self.assertEqual(desk.state(), made.state())


if __name__ == "__main__":
    unittest.main()
