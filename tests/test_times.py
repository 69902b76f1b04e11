"""Points 19 and 20."""

import inspect
import random
import unittest
from fractions import Fraction

from helpers import (
    ANYTHING, BOX, DIAMOND, EIGHT, Held, TRIANGLE, are_over, box, broken, gap_of, meeting_time, rough_ways, some_pairs,
    some_share, spot, told,
)
from restbodies import times as module
from restbodies.bodies import free, railed, wall
from restbodies.bounds import REACH
from restbodies.errors import Over
from restbodies.gaps import pair_ways
from restbodies.spots import is_way
from restbodies.times import first, first_held

HAIR = Fraction(1, 10 ** 60)
FAR = 10 ** 60 + 7


def closest(one, other, after):
    """The pair ways whose gap is nought after a time, with their rates."""
    found = []
    for way in pair_ways(one, other):
        if gap_of(one, other, way, after) == 0:
            found.append((way, gap_of(one, other, way, after + 1)))
    return found


class Interface(unittest.TestCase):

    def test_arguments(self):
        for name, arguments in [("first", "(one, other, until)"), ("first_held", "(one, other, until, paper)")]:
            self.assertEqual(str(inspect.signature(getattr(module, name))), arguments)
            self.assertEqual(getattr(module, name).__module__, "restbodies.times")


class Cases(Held, unittest.TestCase):

    def assert_clear(self, one, other, until):
        until = Fraction(until)
        for low, high in [(one, other), (other, one)]:
            with self.subTest(low=low, high=high, until=until):
                paper = first(low, high, told(until))
                self.assertIs(type(paper), tuple)
                self.assertEqual((len(paper), paper[0]), (2, "clear"))
                self.assertTrue(is_way(paper[1]))
                self.assertGreaterEqual(gap_of(low, high, paper[1]), 0)
                self.assertGreaterEqual(gap_of(low, high, paper[1], until), 0)
                self.assertIs(first_held(low, high, told(until), paper), True)
                self.assertEqual(first(low, high, told(until)), paper)

    def assert_meets(self, one, other, until, time):
        until, time = Fraction(until), Fraction(time)
        for low, high in [(one, other), (other, one)]:
            with self.subTest(low=low, high=high, until=until):
                paper = first(low, high, told(until))
                self.assertIs(type(paper), tuple)
                self.assertEqual((len(paper), paper[:2]), (3, ("meets", told(time))))
                self.assertIn(paper[2], pair_ways(low, high))
                self.assertEqual(gap_of(low, high, paper[2], time), 0)
                self.assertLess(gap_of(low, high, paper[2], time + 1), 0)
                self.assertIs(first_held(low, high, told(until), paper), True)
                self.assertEqual(first(low, high, told(until)), paper)

    def assert_course(self, one, other, time):
        """They meet at that time, or never where it is None: asked with several untils about it."""
        if time is None:
            for until in (0, HAIR, 1, 10 ** 9, FAR):
                self.assert_clear(one, other, until)
            return
        for until in (time + HAIR, time + 1, time + FAR):
            self.assert_meets(one, other, until, time)
        for until in {0, time, Fraction(time) / 2, max(time - HAIR, 0)}:
            self.assert_clear(one, other, until)


class First(Cases):

    def test_head_on(self):
        self.assert_course(box("a", 0, 0, (1, 0)), box("b", 5, 0, (-1, 0)), Fraction(3, 2))
        self.assert_course(box("a", 0, 0), box("b", 5, 1, (-1, 0)), 3)
        self.assert_course(box("a", 0, 0, (0, 3)), box("b", 1, 9, (0, 2)), 7)
        self.assert_course(box("a", 0, 0, (1, 0)), box("b", 5, 0, (1, 0)), None)
        self.assert_course(box("a", 0, 0, (-1, 0)), box("b", 5, 0, (1, 0)), None)

    def test_kinds(self):
        still = wall("w", BOX)
        self.assert_course(still, wall("v", BOX, at=spot(5, 5)), None)
        self.assert_course(still, wall("v", BOX, at=spot(2, 1)), None)
        self.assert_course(still, box("a", 9, 0, (-2, 0)), Fraction(7, 2))
        cart = railed("c", BOX, rail=(1, 2), at=spot(-4, -7), speed=spot(1, 2))
        self.assert_course(still, cart, Fraction(5, 2))
        self.assert_course(still, railed("c", BOX, rail=(1, 2), at=spot(-4, -6), speed=spot(1, 2)), 2)
        self.assert_course(still, railed("c", BOX, rail=(-1, 0), at=spot(-4, -7), speed=spot(5, 0)), None)

    def test_touching_and_closing_meets_at_nought(self):
        self.assert_course(box("a", 0, 0), box("b", 2, 0, (-1, 0)), 0)
        self.assert_course(box("a", 0, 0, (HAIR, 0)), box("b", 2, 1), 0)
        self.assert_course(box("a", 0, 0, (1, 1)), box("b", 2, 2), 0)
        self.assert_course(box("a", 0, 0), box("b", 3, 1, (-1, 0), DIAMOND), 0)
        self.assert_course(box("a", 0, 0), box("b", 2, 1, (-1, 5)), 0)

    def test_touching_and_parting_or_going_by(self):
        still = box("a", 0, 0)
        for speed in [(1, 0), (0, 1), (0, -3), (0, 0), (HAIR, -1), (1, 5)]:
            self.assert_course(still, box("b", 2, 1, speed), None)
        for speed in [(1, -1), (-1, 1), (0, -1), (-1, 0), (1, 1), (0, 0), (5, -1), (-HAIR, 1)]:
            self.assert_course(still, box("b", 2, 2, speed), None)

    def test_a_corner_that_goes_over_at_once_or_slides_past(self):
        # At corners that meet both gaps are nought: both must fall.
        still = box("a", 0, 0)
        self.assert_course(still, box("b", 2, 2, (-HAIR, -1)), 0)
        self.assert_course(still, box("b", 2, 2, (0, -1)), None)
        self.assert_course(still, box("b", 2, 2, (HAIR, -1)), None)
        self.assert_course(still, box("b", 2, 3, (0, -1)), None)
        self.assert_course(still, box("b", 2 - HAIR, 3, (0, -1)), 1)
        self.assert_course(still, box("b", 2 + HAIR, 3, (0, -1)), None)
        self.assert_course(still, box("b", 4, 4, (-1, -1)), 2)
        self.assert_course(still, box("b", 4, 0, (-1, 1)), None)
        self.assert_course(still, box("b", 4, -4, (-1, 1)), 2)
        self.assert_course(still, box("b", 5, -1, (-1, 1)), None)
        self.assert_course(still, box("b", 5, -1 - HAIR, (-1, 1)), 3)

    def test_corners_on_corners(self):
        one = box("a", 0, 0, shape=DIAMOND)
        self.assert_course(one, box("b", 5, 0, (-1, 0), DIAMOND), 3)
        self.assert_course(one, box("b", 5, 2, (-1, 0), DIAMOND), None)
        self.assert_course(one, box("b", 5, 1, (-1, 0), DIAMOND), 4)
        self.assert_course(one, box("b", 5, 2 - HAIR, (-1, 0), DIAMOND), 5 - HAIR)
        self.assert_course(one, box("b", 4, 6, (-1, -1), DIAMOND), None)
        self.assert_course(one, box("b", 4, 6 - HAIR, (-1, -1), DIAMOND), 4 - HAIR / 2)
        self.assert_course(box("a", 0, 0, shape=TRIANGLE), box("b", 9, 0, (-2, 0), EIGHT), 2)

    def test_side_by_side(self):
        for fast, slow in [(5, 1), (1, 5), (3, 3), (-2, 2), (0, 1)]:
            self.assert_course(box("a", 0, 0, (fast, 0)), box("b", -7, 2, (slow, 0)), None)
            self.assert_course(box("a", 0, 0, (fast, 0)), box("b", -7, 2 + HAIR, (slow, 0)), None)
        self.assert_course(box("a", 0, 0, (1, 0)), box("b", -7, 2 - HAIR, (5, 0)), Fraction(5, 4))

    def test_a_clear_way_where_no_pair_way_serves(self):
        one, other = box("a", 0, 0, (1, 1)), box("b", 5, -1, (-3, 5))
        until = Fraction(3, 2)
        self.assertFalse(any(gap_of(one, other, way) >= 0 and gap_of(one, other, way, until) >= 0
                             for way in rough_ways(one, other)))
        self.assertIsNone(meeting_time(one, other))
        self.assert_clear(one, other, until)
        self.assertEqual(first(one, other, told(until))[1], (1, 1))
        self.assertEqual(first(other, one, told(until))[1], (-1, -1))
        quick = box("b", 5, -1, (-FAR, FAR))
        self.assertIsNone(meeting_time(box("a", 0, 0), quick))
        self.assert_clear(box("a", 0, 0), quick, Fraction(6, FAR))
        one, other = box("a", 0, 0), box("b", 4, 0, (-2, 2))
        self.assert_clear(one, other, 2)

    def test_until_nought(self):
        for one, other in some_pairs(60, 10, 9, 3):
            if not are_over(one, other):
                self.assert_clear(one, other, 0)

    def test_great_numbers(self):
        huge = ((-REACH, -REACH), (REACH, -REACH), (REACH, REACH), (-REACH, REACH))
        one = free("a", huge, at=spot(-FAR, 0), speed=spot(Fraction(3, 7), 0))
        other = free("b", huge, at=spot(FAR, REACH), speed=spot(Fraction(-4, 7), 0))
        self.assert_course(one, other, 2 * FAR - 2 * REACH)
        self.assert_course(one, free("b", huge, at=spot(FAR, 2 * REACH), speed=spot(Fraction(-4, 7), 0)), None)

    def test_many(self):
        dice = random.Random(11)
        count = {"meets": 0, "clear": 0, "at nought": 0}
        for one, other in some_pairs(400, 12, 6, 2):
            if are_over(one, other):
                continue
            time = meeting_time(one, other)
            until = abs(Fraction(*some_share(dice, 9, 4)))
            if time is not None and time < until:
                self.assert_meets(one, other, until, time)
                count["meets"] += 1
                count["at nought"] += time == 0
            else:
                self.assert_clear(one, other, until)
                count["clear"] += 1
            self.assert_course(one, other, time)
        self.assertGreater(min(count["meets"], count["clear"]), 40)

    def test_over(self):
        for one, other in [
            (box("a", 0, 0), box("b", 1, 1)), (box("a", 0, 0), box("b", 0, 0, (9, 9))),
            (wall("a", BOX), wall("b", BOX)), (box("a", 0, 0), box("b", 2 - HAIR, 0, (1, 0))),
        ]:
            for low, high in [(one, other), (other, one)]:
                for until in [(0, 1), (1, 2), (FAR, 1)]:
                    with self.assertRaises(Over) as caught:
                        first(low, high, until)
                    self.assertIs(type(caught.exception), Over)
                    self.assertEqual((caught.exception.one, caught.exception.other), ("a", "b"))
        with self.assertRaises(Over) as caught:
            first(box("ab", 0, 0), box("aa", 1, 0), (1, 1))
        self.assertEqual((caught.exception.one, caught.exception.other), ("aa", "ab"))


class FirstHeld(Cases):

    one = box("a", 0, 0, (1, 0))
    other = box("b", 5, 1, (-1, 0))
    meets = ("meets", (3, 2), (1, 0))

    def test_right_ones(self):
        self.assert_held(True, first_held, self.one, self.other, (2, 1), self.meets)
        self.assert_held(True, first_held, self.other, self.one, (2, 1), ("meets", (3, 2), (-1, 0)))
        self.assert_held(True, first_held, self.one, self.other, (3 * 10 ** 60 + 1, 2 * 10 ** 60), self.meets)
        for way in [(1, 0), (5, 1), (10 ** 30, 1), (10 ** 30, -1)]:
            self.assert_held(True, first_held, self.one, self.other, (1, 1), ("clear", way))
        self.assert_held(True, first_held, self.one, self.other, (3, 2), ("clear", (1, 0)))

    def test_both_ways_of_corners_that_meet(self):
        one, other = box("a", 0, 0), box("b", 4, 4, (-1, -1))
        for way in [(1, 0), (0, 1)]:
            self.assert_held(True, first_held, one, other, (3, 1), ("meets", (2, 1), way))
        # Along these the gap is nought then, too, and falls, but they are no pair ways.
        for way in [(1, 1), (2, 1), (10 ** 30, 1)]:
            self.assertEqual(gap_of(one, other, way, 2), 0)
            self.assert_held(False, first_held, one, other, (3, 1), ("meets", (2, 1), way))
        self.assert_held(False, first_held, one, other, (3, 1), ("clear", (1, 1)))
        self.assert_held(True, first_held, one, other, (2, 1), ("clear", (1, 1)))

    def test_other_times(self):
        for time in [(1, 1), (0, 1), (2, 1), (7, 4), (-3, 2), (3, 1), (7, 2), (10 ** 30, 1)]:
            self.assert_held(False, first_held, self.one, self.other, (100, 1), ("meets", time, (1, 0)))
        for time in [3, (6, 4), (-3, -2), [3, 2], "3/2", None, (3,), (3, 2, 1), (True, 2), ((3, 2),), (3, 0), {3: 2}]:
            self.assert_held(False, first_held, self.one, self.other, (100, 1), ("meets", time, (1, 0)))
        touching, towards = box("a", 0, 0), box("b", 2, 0, (-1, 0))
        self.assert_held(True, first_held, touching, towards, (1, 1), ("meets", (0, 1), (1, 0)))
        for time in [0, False, (0, True), (False, 1), (0, 2), (0, -1), (), ((0, 1), (0, 1)), (1, 1)]:
            self.assert_held(False, first_held, touching, towards, (1, 1), ("meets", time, (1, 0)))
        # Where the one leaves the other behind, its rate is below nought at no time of a gap of nought.
        self.assert_held(False, first_held, self.one, self.other, (9, 1), ("meets", (7, 2), (-1, 0)))

    def test_times_at_until_beyond_and_below_nought(self):
        for until in [(3, 2), (1, 1), (0, 1), (3 * 10 ** 60 - 1, 2 * 10 ** 60)]:
            self.assert_held(False, first_held, self.one, self.other, until, self.meets)
        self.assert_held(False, first_held, self.one, self.other, (3, 2), ("meets", (1, 1), (1, 0)))
        self.assert_held(False, first_held, box("a", 0, 0), box("b", 2, 0, (-1, 0)), (0, 1), ("meets", (0, 1), (1, 0)))
        # A time below nought at which they met, so that they are over now.
        for time in [(-1, 2), (-1, 1), (0, 1)]:
            self.assert_held(False, first_held, box("a", 0, 0), box("b", 1, 0, (-2, 0)), (9, 1),
                             ("meets", time, (1, 0)))

    def test_over_now(self):
        one, other = box("a", 0, 0), box("b", 1, 1, (1, 0))
        for way in pair_ways(one, other):
            self.assert_held(False, first_held, one, other, (9, 1), ("clear", way))
            self.assert_held(False, first_held, one, other, (9, 1), ("meets", (0, 1), way))

    def test_ways_of_meets(self):
        one, other = box("a", 0, 0), box("b", 5, 2, (-1, 0), TRIANGLE)
        near = box("b", 4, 0, (-1, 0), ((0, 1), (3, 0), (3, 2)))
        self.assertEqual(closest(one, near, Fraction(2)), [((1, 0), -1)])
        self.assert_held(True, first_held, one, near, (3, 1), ("meets", (2, 1), (1, 0)))
        for way in [(2, 1), (1, 1), (0, 1), (-1, 0), (3, -1), (2, 0), (0, 0), [1, 0], (True, 0), (1, False),
                    (True, False), None, "10", (1,), (1, 0, 0), ((1, 1), (0, 1)), 1, {}]:
            self.assert_held(False, first_held, one, near, (3, 1), ("meets", (2, 1), way))
        self.assertIsNone(meeting_time(one, other))
        for way in pair_ways(one, other):
            for time in [(0, 1), (1, 1), (3, 1), (5, 1)]:
                self.assert_held(False, first_held, one, other, (9, 1), ("meets", time, way))

    def test_another_gap_above_nought(self):
        one, other = box("a", 0, 0), box("b", 5, 4, (-1, 0))
        self.assertEqual(closest(one, other, Fraction(3)), [((1, 0), -1)])
        self.assert_held(False, first_held, one, other, (9, 1), ("meets", (3, 1), (1, 0)))
        later = box("b", 5, 4, (-1, Fraction(-1, 2)))
        self.assert_held(False, first_held, one, later, (9, 1), ("meets", (3, 1), (1, 0)))
        self.assert_held(True, first_held, one, later, (9, 1), ("meets", (4, 1), (0, 1)))

    def test_another_gap_of_nought_that_does_not_fall(self):
        one = box("a", 0, 0)
        for speed in [(-1, 0), (-1, 1)]:
            other = box("b", 5, 2 - 3 * speed[1], speed)
            self.assertEqual(sorted(closest(one, other, Fraction(3))), [((0, 1), speed[1]), ((1, 0), -1)])
            self.assert_held(False, first_held, one, other, (9, 1), ("meets", (3, 1), (1, 0)))
            self.assert_held(False, first_held, one, other, (9, 1), ("meets", (3, 1), (0, 1)))

    def test_wrong_clear_ways(self):
        for until, way in [((2, 1), (1, 0)), ((1, 1), (0, 1)), ((1, 1), (-1, 0)), ((0, 1), (0, -1)), ((1, 1), (1, 9)),
                           ((7, 2), (-1, 0)), ((9, 1), (1, 0)), ((9, 1), (-1, 0))]:
            self.assert_held(False, first_held, self.one, self.other, until, ("clear", way))
        for way in [(2, 0), (0, 0), [1, 0], (True, 0), (1, False), (1,), (1, 0, 0), None, "10", {1: 0}, 1]:
            self.assert_held(False, first_held, self.one, self.other, (1, 1), ("clear", way))
        # A way whose gap is above nought now or after until alone doesn't do.
        one, other = box("a", 0, 0), box("b", 5, 1, (-9, 0))
        self.assert_held(False, first_held, one, other, (1, 1), ("clear", (1, 0)))
        self.assert_held(False, first_held, one, other, (1, 1), ("clear", (-1, 0)))

    def test_wrong_forms(self):
        for paper in broken(self.meets) + ANYTHING:
            self.assert_held(False, first_held, self.one, self.other, (2, 1), paper)
        for paper in broken(("clear", (1, 0))) + ANYTHING:
            self.assert_held(False, first_held, self.one, self.other, (1, 1), paper)
        for paper in [("clear", (3, 2), (1, 0)), ("meets", (1, 0)), ("meets", (1, 0), (3, 2)), ("apart", (1, 0)),
                      ("over", (3, 2), (1, 0)), ("meets", (3, 2)), ("clear", "meets"), ("meets",), ("clear",)]:
            self.assert_held(False, first_held, self.one, self.other, (2, 1), paper)
            self.assert_held(False, first_held, self.one, self.other, (1, 1), paper)

    def test_anything_within(self):
        for thing in ANYTHING:
            self.assert_held(False, first_held, self.one, self.other, (2, 1), ("meets", thing, (1, 0)))
            self.assert_held(False, first_held, self.one, self.other, (2, 1), ("meets", thing, thing))
            if thing != (1, 0):
                self.assert_held(False, first_held, self.one, self.other, (2, 1), ("meets", (3, 2), thing))
            if not is_way(thing):
                self.assert_held(False, first_held, self.one, self.other, (1, 1), ("clear", thing))

    def test_only_what_is_so_holds(self):
        dice = random.Random(13)
        times = [told(Fraction(top, bottom)) for top in range(-2, 7) for bottom in (1, 2)]
        for one, other in some_pairs(60, 14, 5, 1):
            until = abs(Fraction(*some_share(dice, 9, 2)))
            time = None if are_over(one, other) else meeting_time(one, other)
            right = []
            if time is not None and time < until:
                right = [("meets", told(time), way) for way, speed in closest(one, other, time)]
            tried = times + [paper[1] for paper in right]
            for way in pair_ways(one, other):
                for each in tried:
                    paper = ("meets", each, way)
                    self.assertIs(first_held(one, other, told(until), paper), paper in right)


if __name__ == "__main__":
    unittest.main()
