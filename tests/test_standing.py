"""Points 27 and 28."""

import copy
import inspect
import random
import time
import unittest
from fractions import Fraction

from helpers import (
    ANYTHING, BOX, DIAMOND, LETTERS, Held, answer_of, box, broken, partings_of, some_heap, some_spot, speeds_behind,
    spot, told, values, wedges, with_speeds, world,
)
from restbodies import standing as module
from restbodies.bodies import free, railed, wall
from restbodies.contacts import contacts
from restbodies.errors import Over
from restbodies.shares import is_share
from restbodies.spots import STILL, is_spot
from restbodies.standing import standing, standing_held

DOWN = spot(0, -1)
UP = spot(0, 1)
RIGHT = spot(1, 0)
FLOOR = wall("floor", ((-9, -1), (9, -1), (9, 0), (-9, 0)))
HALF = Fraction(1, 2)


def kick_of(row, pull):
    """The change of a body's speed by a pull, in Fractions."""
    x, y = values(pull)
    return answer_of(row, x * row[2], y * row[2])


def is_right(rows, pull, paper):
    """Whether a paper in its right form says what is so, by point 27."""
    word, given, parts = paper
    still = with_speeds(rows, {})
    if given != contacts(still):
        return False
    if word == "stands":
        kicked = with_speeds(still, {row[0]: kick_of(row, pull) for row in rows})
        speeds = speeds_behind(kicked, given, parts)
        return all(push[0] >= 0 for push in parts) and all(list(speeds[name]) == [0, 0] for name in speeds)
    if [name for name, speed in parts] != [row[0] for row in rows if row[2] > 0]:
        return False
    speeds = {row[0]: [Fraction(0), Fraction(0)] for row in rows}
    speeds.update({name: values(speed) for name, speed in parts})
    for row in rows:
        x, y = speeds[row[0]]
        if row[3] is not None and row[3][0] * y != row[3][1] * x:
            return False
    u, v = values(pull)
    work = sum(row[2] * (u * speeds[row[0]][0] + v * speeds[row[0]][1]) for row in rows)
    return work > 0 and all(parting >= 0 for parting in partings_of(speeds, given))


class Interface(unittest.TestCase):

    def test_arguments(self):
        for name, arguments in [("standing", "(rows, pull)"), ("standing_held", "(rows, pull, paper)")]:
            self.assertEqual(str(inspect.signature(getattr(module, name))), arguments)
            self.assertEqual(getattr(module, name).__module__, "restbodies.standing")


class Told(unittest.TestCase):
    """What both test classes below ask of a paper."""

    def assert_told(self, word, rows, pull):
        kept = copy.deepcopy((rows, pull))
        paper = standing(rows, pull)
        self.assertEqual(paper[0], word)
        self.assertIs(type(paper), tuple)
        self.assertEqual([type(part) for part in paper], [str, tuple, tuple])
        if word == "stands":
            self.assertEqual(len(paper[1]), len(paper[2]))
            self.assertTrue(all(is_share(push) for push in paper[2]))
        else:
            self.assertTrue(all(type(entry) is tuple and len(entry) == 2 and is_spot(entry[1]) for entry in paper[2]))
        self.assertTrue(is_right(rows, pull, paper))
        self.assertEqual(standing(rows, pull), paper)
        self.assertEqual((rows, pull), kept)
        self.assertIs(standing_held(rows, pull, paper), True)
        return paper

    def assert_stands(self, rows, pull):
        return self.assert_told("stands", rows, pull)

    def assert_parts(self, rows, pull):
        return self.assert_told("parts", rows, pull)


class Cases(Told):

    def test_box_on_a_floor(self):
        rows = world(box("b", 0, 0, mass=3), FLOOR)
        self.assertEqual(self.assert_stands(rows, spot(0, -2)), ("stands", (("b", "floor", (0, -1)),), ((6, 1),)))
        self.assertEqual(self.assert_stands(rows, STILL), ("stands", (("b", "floor", (0, -1)),), ((0, 1),)))
        for pull in [RIGHT, UP, spot(-1, -5), spot(Fraction(1, 10 ** 50), -5), spot(-3, 2)]:
            self.assert_parts(rows, pull)

    def test_box_alone(self):
        rows = world(box("b", 0, 1, mass=3), FLOOR)
        self.assert_parts(rows, DOWN)
        self.assertEqual(self.assert_stands(rows, STILL), ("stands", (), ()))
        self.assert_parts((box("b", 0, 0),), spot(1, 2))

    def test_box_on_two_others(self):
        low = [box("a", 0, 0, mass=2), box("b", 3, 0, mass=2)]
        rows = world(*low, box("c", 1, 2, mass=4), FLOOR)
        word, given, pushes = self.assert_stands(rows, DOWN)
        self.assertEqual(len(given), 4)
        self.assert_parts(rows, UP)
        self.assert_parts(world(low[0], box("c", 1, 2), FLOOR, box("d", 2, 0)), RIGHT)

    def test_tower(self):
        rows = world(*[box(name, 0, 2 * at, mass=at + 1) for at, name in enumerate("abcd")], FLOOR)
        word, given, pushes = self.assert_stands(rows, spot(0, -HALF))
        self.assertEqual(given, (("a", "b", (0, 1)), ("a", "floor", (0, -1)), ("b", "c", (0, 1)), ("c", "d", (0, 1))))
        self.assertEqual(pushes, (told(4 + HALF), (5, 1), told(3 + HALF), (2, 1)))
        self.assert_parts(rows, spot(1, -9))
        self.assert_parts(tuple(row for row in rows if row[0] != "b"), DOWN)

    def test_box_between_walls(self):
        left, right = wall("l", BOX, at=spot(-2, 0)), wall("r", BOX, at=spot(2, 0))
        rows = world(box("b", 0, 0), left, right)
        for pull in [STILL, RIGHT, spot(-7, 0)]:
            self.assert_stands(rows, pull)
        self.assert_parts(rows, DOWN)
        self.assert_parts(rows, spot(1, Fraction(1, 10 ** 30)))
        rows = world(*rows, wall("t", ((-2, 2), (4, 2), (4, 4), (-2, 4))), wall("u", ((-2, -2), (4, -2), (4, 0), (-2, 0))))
        for pull in [STILL, RIGHT, DOWN, spot(-7, 5), spot(3, HALF)]:
            self.assert_stands(rows, pull)

    def test_hanging_under_a_wall(self):
        rows = world(wall("w", BOX), box("b", 0, -2))
        self.assert_parts(rows, DOWN)
        self.assert_parts(rows, RIGHT)
        self.assert_stands(rows, UP)

    def test_on_a_slope_of_two_walls(self):
        rows = world(free("d", DIAMOND, mass=2), wall("l", ((-1, 0), (-1, -1), (0, -1))),
                     wall("r", ((1, 0), (0, -1), (1, -1))))
        paper = self.assert_stands(rows, DOWN)
        self.assertEqual(paper, ("stands", (("d", "l", (-1, -1)), ("d", "r", (1, -1))), ((1, 1), (1, 1))))
        self.assert_stands(rows, spot(1, -1))
        self.assert_stands(rows, spot(-1, -1))
        self.assert_parts(rows, spot(Fraction(101, 100), -1))
        self.assert_parts(rows[:2], DOWN)

    def test_railed_ones(self):
        rows = (railed("r", BOX, rail=(1, 0), mass=5),)
        self.assertEqual(self.assert_stands(rows, DOWN), ("stands", (), ()))
        self.assert_parts(rows, RIGHT)
        self.assert_parts(rows, spot(-1, 8))
        rows = (railed("r", BOX, rail=(2, 3), mass=5),)
        self.assert_stands(rows, spot(-3, 2))
        self.assert_parts(rows, spot(-3, 3))
        rows = world(railed("r", BOX, rail=(1, -1), mass=5), wall("w", BOX, at=spot(2, 0)))
        self.assert_stands(rows, DOWN)
        self.assert_stands(rows, RIGHT)
        self.assert_parts(rows, UP)
        rows = world(railed("r", BOX, rail=(0, 1), mass=5), box("s", 0, 2, mass=2), FLOOR)
        self.assert_stands(rows, DOWN)
        self.assert_parts(rows, UP)
        rows = world(railed("r", BOX, rail=(1, 0), mass=5), box("s", 0, 2, mass=2))
        self.assertEqual(self.assert_stands(rows, DOWN), ("stands", (("r", "s", (0, 1)),), ((2, 1),)))

    def test_no_bodies_and_walls_alone(self):
        for rows in [(), (FLOOR,), world(FLOOR, wall("w", BOX)), world(FLOOR, wall("w", BOX, at=spot(0, -1)))]:
            for pull in [STILL, DOWN, spot(3, HALF)]:
                self.assertEqual(self.assert_stands(rows, pull), ("stands", (), ()))

    def test_speeds_count_for_nothing(self):
        rows = world(box("a", 0, 0), box("b", 2, 2), box("c", 4, 2), box("d", 2, 0), FLOOR)
        for pull in [DOWN, RIGHT, spot(1, 1)]:
            paper = standing(rows, pull)
            for speeds in [{"a": (5, 0)}, {"b": (-1, -9), "d": (0, 3)}, {"a": (0, 7)}, {"b": (-2, 1)}]:
                self.assertEqual(standing(with_speeds(rows, speeds), pull), paper)
                self.assertIs(standing_held(with_speeds(rows, speeds), pull, paper), True)

    def test_the_contacts_are_those_with_all_speeds_still(self):
        still = world(box("a", 0, 0), box("b", 2, 2))
        for speed in [(-1, 0), (0, -1), (-1, 1)]:
            rows = with_speeds(still, {"b": speed})
            self.assertEqual(standing(rows, DOWN)[1], (("a", "b", (1, 1)),))
        rows = with_speeds(still, {"b": (-1, 1)})
        self.assertNotEqual(contacts(rows), contacts(still))
        word, given, speeds = standing(rows, DOWN)
        self.assertIs(standing_held(rows, DOWN, (word, contacts(rows), speeds)), False)


class Refusals(unittest.TestCase):

    def assert_over(self, rows, one, other):
        for pull in [STILL, DOWN]:
            with self.assertRaises(Over) as caught:
                standing(rows, pull)
            self.assertEqual((caught.exception.one, caught.exception.other), (one, other))
            for paper in [("stands", (), ()), ("parts", (), ()), None, 7, ("stands",), []]:
                with self.assertRaises(Over) as caught:
                    standing_held(rows, pull, paper)
                self.assertEqual((caught.exception.one, caught.exception.other), (one, other))

    def test_the_first_two_by_names(self):
        self.assert_over(world(box("b", 0, 0), box("c", 1, 0)), "b", "c")
        self.assert_over(world(box("a", 0, 0), box("b", 9, 0), box("c", 10, 0), box("d", 1, 1)), "a", "d")
        self.assert_over(world(wall("a", BOX), wall("b", BOX), box("c", 1, 0)), "a", "c")

    def test_two_walls_may_be(self):
        rows = world(wall("v", BOX), wall("w", BOX), box("c", 0, 2))
        self.assertEqual(standing(rows, DOWN)[0], "stands")
        self.assertIs(standing_held(rows, DOWN, standing(rows, DOWN)), True)


class Many(Told):

    def test_heaps(self):
        dice = random.Random(70)
        words = {"stands": 0, "parts": 0}
        for _ in range(150):
            rows = some_heap(dice, dice.randint(1, 7))
            for pull in [DOWN, some_spot(dice, 3, 2)]:
                word = standing(rows, pull)[0]
                words[word] += 1
                self.assert_told(word, rows, pull)
        self.assertGreater(min(words.values()), 20, words)

    def test_twelve(self):
        dice = random.Random(71)
        pyramid = [box(name, x, y, mass=at + 1) for at, (name, (x, y)) in enumerate(zip(LETTERS, [
            (0, 0), (2, 0), (4, 0), (6, 0), (1, 2), (3, 2), (5, 2), (2, 4), (4, 4), (3, 6), (3, 8)]))]
        heaps = [world(*pyramid, FLOOR), wedges(), wedges(11, mass=7) + (wall("w", ((0, 0), (3, -2), (4, 0))),)]
        heaps.append(tuple(box(name, 2 * (at // 4), 2 * (at % 4)) for at, name in enumerate(LETTERS)))
        heaps += [some_heap(dice, 12, 6, tries=400) for _ in range(6)]
        long = told(Fraction(dice.randrange(10 ** 399), dice.randrange(10 ** 399)))
        start = time.process_time()
        for rows in heaps:
            self.assertEqual(len(rows), 12)
            for pull in [DOWN, spot(1, -3), (long, (-7, 3))]:
                self.assert_told(standing(rows, pull)[0], rows, pull)
        self.assertLess(time.process_time() - start, 20)
        self.assertEqual(len(standing(wedges(), DOWN)[1]), 66)
        self.assertEqual(standing(heaps[0], DOWN)[0], "stands")


class HeldStands(Held, unittest.TestCase):

    rows = world(box("a", 0, 0), box("b", 2, 0), box("c", 1, 2, mass=2), FLOOR)
    given = (("a", "b", (1, 0)), ("a", "c", (0, 1)), ("a", "floor", (0, -1)), ("b", "c", (0, 1)),
             ("b", "floor", (0, -1)))

    def assert_pushes(self, good, *pushes):
        paper = ("stands", self.given, tuple(told(push) for push in pushes))
        self.assert_held(good, standing_held, self.rows, DOWN, paper)

    def test_pushes_shared_otherwise(self):
        self.assertEqual(contacts(self.rows), self.given)
        self.assert_pushes(True, 0, 1, 2, 1, 2)
        self.assert_pushes(True, 0, 0, 1, 2, 3)
        self.assert_pushes(True, 0, 2, 3, 0, 1)
        self.assert_pushes(True, 0, Fraction(1, 3), Fraction(4, 3), Fraction(5, 3), Fraction(8, 3))

    def test_wrong_pushes(self):
        self.assert_pushes(False, 0, -1, 0, 3, 4)
        self.assert_pushes(False, 0, 3, 4, -1, 0)
        self.assert_pushes(False, 1, 1, 2, 1, 2)
        self.assert_pushes(False, 0, 1, 2, 1, 2 + Fraction(1, 10 ** 90))
        self.assert_pushes(False, 0, 0, 0, 0, 0)
        self.assert_pushes(False, 0, 1, 2, 1)
        self.assert_pushes(False, 0, 1, 2, 1, 2, 0)
        self.assert_pushes(False, 0, 2, 4, 2, 4)
        self.assert_held(False, standing_held, self.rows, UP, ("stands", self.given, ((0, 1),) * 5))
        self.assert_held(False, standing_held, self.rows, spot(0, -2), standing(self.rows, DOWN))

    def test_any_pushes_between_walls(self):
        rows = world(box("b", 0, 0), wall("v", BOX, at=spot(-2, 0)), wall("w", BOX, at=spot(2, 0)))
        given = (("b", "v", (-1, 0)), ("b", "w", (1, 0)))
        for push in [(0, 1), (1, 1), (10 ** 900, 7)]:
            self.assert_held(True, standing_held, rows, STILL, ("stands", given, (push, push)))
            self.assert_held(False, standing_held, rows, RIGHT, ("stands", given, (push, push)))
        self.assert_held(False, standing_held, rows, STILL, ("stands", given, ((-1, 1), (-1, 1))))

    def test_other_contacts(self):
        right = standing(self.rows, DOWN)
        self.assert_held(True, standing_held, self.rows, DOWN, right)
        word, given, pushes = right
        for other in [given[::-1], given[:4], given + given[:1], (), (("b", "a", (-1, 0)),) + given[1:],
                      (("a", "b", (0, 1)),) + given[1:], given[1:] + given[:1]]:
            self.assert_held(False, standing_held, self.rows, DOWN, (word, other, pushes[:len(other)]))
        rows = world(box("a", 0, 0), FLOOR)
        self.assert_held(False, standing_held, rows, STILL, ("stands", (), ()))

    def test_wrong_forms(self):
        right = standing(self.rows, DOWN)
        for paper in broken(right) + ANYTHING:
            self.assert_held(False, standing_held, self.rows, DOWN, paper)
        for push in [(2, 2), (1, True), (True, 1), [1, 1], (1,), (1, 1, 1), 1, True, "1", None]:
            paper = ("stands", self.given, ((0, 1), push, (2, 1), (1, 1), (2, 1)))
            self.assert_held(False, standing_held, self.rows, DOWN, paper)
        for push in [(0, 2), (0, -1), (False, 1), (0, True), 0, False, None]:
            paper = ("stands", self.given, (push, (1, 1), (2, 1), (1, 1), (2, 1)))
            self.assert_held(False, standing_held, self.rows, DOWN, paper)
        for way in [(0, True), (False, 1), (0, 2), [0, 1], (0, 1, 0)]:
            given = self.given[:1] + (("a", "c", way),) + self.given[2:]
            self.assert_held(False, standing_held, self.rows, DOWN, (right[0], given, right[2]))
        self.assert_held(True, standing_held, self.rows, DOWN, right)

    def test_nothing_touches(self):
        self.assert_held(True, standing_held, (), DOWN, ("stands", (), ()))
        for paper in [("stands", (), []), ("stands", [], ()), ["stands", (), ()], ("stands", (), ((0, 1),)),
                      ("stands", ()), ("parts", (), ()), ("stands", (), (), ()), ("stand", (), ()), (True, (), ())]:
            self.assert_held(False, standing_held, (), DOWN, paper)


class HeldParts(Held, unittest.TestCase):

    rows = world(box("a", 0, 0), railed("r", BOX, rail=(1, -1), mass=2, at=spot(2, 0)), wall("w", BOX, at=spot(-2, 0)))
    given = (("a", "r", (1, 0)), ("a", "w", (-1, 0)))

    def assert_speeds(self, good, *entries):
        paper = ("parts", self.given, tuple((name, spot(x, y)) for name, x, y in entries))
        self.assert_held(good, standing_held, self.rows, DOWN, paper)

    def test_right_speeds(self):
        self.assertEqual(contacts(self.rows), self.given)
        self.assert_speeds(True, ("a", 0, -1), ("r", 1, -1))
        self.assert_speeds(True, ("a", 0, -2), ("r", 2, -2))
        self.assert_speeds(True, ("a", 0, -1), ("r", 0, 0))
        self.assert_speeds(True, ("a", 0, 0), ("r", HALF, -HALF))
        self.assert_speeds(True, ("a", 1, 0), ("r", 1, -1))
        self.assert_speeds(True, ("a", 0, 1), ("r", 1, -1))
        self.assert_speeds(True, ("a", 0, 2 - Fraction(1, 10 ** 90)), ("r", 1, -1))

    def test_wrong_speeds(self):
        self.assert_speeds(False, ("a", 0, -1), ("r", 1, 0))
        self.assert_speeds(False, ("a", 0, -1), ("r", 1, -1 - Fraction(1, 10 ** 90)))
        self.assert_speeds(False, ("a", 0, 0), ("r", 0, 0))
        self.assert_speeds(False, ("a", 0, 2), ("r", 1, -1))
        self.assert_speeds(False, ("a", 0, 3), ("r", 1, -1))
        self.assert_speeds(False, ("a", -1, -1), ("r", 1, -1))
        self.assert_speeds(False, ("a", 2, -9), ("r", 1, -1))
        self.assert_speeds(False, ("a", 1 + Fraction(1, 10 ** 90), -9), ("r", 1, -1))
        self.assert_held(False, standing_held, self.rows, UP, standing(self.rows, DOWN))

    def test_entries(self):
        self.assert_speeds(False, ("a", 0, -1), ("r", 1, -1), ("w", 0, 0))
        self.assert_speeds(False, ("a", 0, -1))
        self.assert_speeds(False, ("r", 1, -1))
        self.assert_speeds(False)
        self.assert_speeds(False, ("a", 0, -1), ("a", 0, -1))
        self.assert_speeds(False, ("a", 0, -1), ("a", 0, -1), ("r", 1, -1))
        self.assert_speeds(False, ("a", 0, -1), ("r", 1, -1), ("r", 1, -1))
        self.assert_speeds(False, ("r", 1, -1), ("a", 0, -1))
        self.assert_speeds(False, ("a", 0, -1), ("s", 1, -1))
        self.assert_speeds(False, ("a", 0, -1), ("w", 0, 0))

    def test_other_contacts(self):
        word, given, speeds = standing(self.rows, DOWN)
        for other in [given[::-1], given[:1], given + given[1:], (), (given[0], ("a", "w", (0, -1))),
                      (given[0], ("w", "a", (1, 0)))]:
            self.assert_held(False, standing_held, self.rows, DOWN, (word, other, speeds))

    def test_the_word_with_the_others_parts(self):
        right = standing(self.rows, DOWN)
        self.assert_held(False, standing_held, self.rows, DOWN, ("stands",) + right[1:])
        self.assert_held(False, standing_held, self.rows, DOWN, ("parts", self.given, ((1, 1), (0, 1))))
        self.assert_held(False, standing_held, self.rows, DOWN, ("stands", self.given, ((1, 1), (0, 1))))
        rows = world(box("b", 0, 0), FLOOR)
        right = standing(rows, DOWN)
        self.assert_held(True, standing_held, rows, DOWN, right)
        self.assert_held(False, standing_held, rows, DOWN, ("parts",) + right[1:])
        self.assert_held(False, standing_held, rows, DOWN, ("parts", right[1], (("b", DOWN),)))
        self.assert_held(False, standing_held, rows, DOWN, ("parts", right[1], (("b", STILL),)))

    def test_wrong_forms(self):
        right = standing(self.rows, DOWN)
        self.assert_held(True, standing_held, self.rows, DOWN, right)
        for paper in broken(right) + ANYTHING:
            self.assert_held(False, standing_held, self.rows, DOWN, paper)
        for speed in [((0, 1), (-2, 2)), ((False, 1), (-1, 1)), ((0, True), (-1, 1)), [(0, 1), (-1, 1)], (0, -1), None,
                      ((0, 1), (-1, 1), (0, 1)), ((0, 1),), ((0, 2), (-1, 1)), "0 -1"]:
            paper = ("parts", self.given, (("a", speed), ("r", spot(1, -1))))
            self.assert_held(False, standing_held, self.rows, DOWN, paper)

    def test_random_speeds(self):
        dice = random.Random(72)
        good = 0
        for _ in range(300):
            rows = some_heap(dice, dice.randint(2, 5))
            pull = some_spot(dice, 2, 1)
            speeds = {row[0]: (dice.randint(-1, 1), dice.randint(-1, 1)) for row in rows}
            entries = tuple((row[0], spot(*speeds[row[0]])) for row in rows if row[2] > 0)
            paper = ("parts", contacts(with_speeds(rows, {})), entries)
            due = is_right(rows, pull, paper)
            good += due
            self.assert_held(due, standing_held, rows, pull, paper)
        self.assertGreater(good, 15)


if __name__ == "__main__":
    unittest.main()
