"""Points 17 and 18."""

import inspect
import random
import unittest
from fractions import Fraction

from helpers import (
    ANYTHING, BOX, DIAMOND, EIGHT, Held, SHAPES, THIN, TRIANGLE, are_over, box, broken, gap_of, lies_inside, some_pairs,
    some_share, spot, told,
)
from restbodies import apart as module
from restbodies.apart import apart, apart_held
from restbodies.bodies import free, railed, wall
from restbodies.bounds import REACH
from restbodies.spots import is_spot, is_way

HAIR = Fraction(1, 10 ** 60)
FAR = 10 ** 60 + 7
HUGE = ((-REACH, -REACH), (REACH, -REACH), (REACH, REACH), (-REACH, REACH))


class Interface(unittest.TestCase):

    def test_arguments(self):
        for name, arguments in [
            ("apart", "(one, other, after=(0, 1))"), ("apart_held", "(one, other, paper, after=(0, 1))"),
        ]:
            self.assertEqual(str(inspect.signature(getattr(module, name))), arguments)
            self.assertEqual(getattr(module, name).__module__, "restbodies.apart")


class Apart(Held, unittest.TestCase):

    def assert_stand(self, word, one, other, after=0):
        """They stand so, whichever is handed in first; the paper is right, and is held."""
        for first, second in [(one, other), (other, one)]:
            with self.subTest(word, first=first, second=second, after=after):
                paper = apart(first, second, told(after))
                self.assertIs(type(paper), tuple)
                self.assertEqual((len(paper), paper[0]), (2, word))
                if word == "over":
                    self.assertTrue(is_spot(paper[1]))
                    self.assertTrue(lies_inside(first, paper[1], after))
                    self.assertTrue(lies_inside(second, paper[1], after))
                else:
                    self.assertTrue(is_way(paper[1]))
                    self.assertGreaterEqual(gap_of(first, second, paper[1], after), 0)
                self.assertEqual(apart(first, second, told(after)), paper)
                self.assertIs(apart_held(first, second, paper, told(after)), True)
                if after == 0:
                    self.assertEqual(apart(first, second), paper)
                    self.assertIs(apart_held(first, second, paper), True)

    def test_far_off(self):
        for shape in SHAPES:
            self.assert_stand("apart", box("a", 0, 0), box("b", 100, 3, shape=shape))
            self.assert_stand("apart", box("a", 0, 0), box("b", -3, -100, shape=shape))
            self.assert_stand("apart", box("a", FAR, -FAR), box("b", -FAR, Fraction(FAR, 3), shape=shape))

    def test_touching(self):
        still = box("a", 0, 0)
        for x, y in [(2, 0), (2, 1), (2, Fraction(-3, 2)), (-2, 0), (0, 2), (0, -2), (Fraction(1, 7), 2),
                     (2, 2), (2, -2), (-2, 2), (-2, -2)]:
            self.assert_stand("apart", still, box("b", x, y))
        self.assert_stand("apart", still, box("b", 3, 1, shape=DIAMOND))
        self.assert_stand("apart", still, box("b", 3, Fraction(1, 3), shape=DIAMOND))
        self.assert_stand("apart", still, box("b", 3, 2, shape=DIAMOND))
        self.assert_stand("apart", box("a", 0, 0, shape=DIAMOND), box("b", 2, 0, shape=DIAMOND))
        self.assert_stand("apart", box("a", 0, 0, shape=DIAMOND), box("b", 1, 1, shape=DIAMOND))

    def test_a_hair(self):
        still = box("a", 0, 0)
        for x, y in [(2, 0), (2, 1), (-2, 0), (0, -2), (2, 2), (-2, 2)]:
            shrunk = (x * (1 - HAIR), y * (1 - HAIR))
            grown = (x * (1 + HAIR), y * (1 + HAIR))
            self.assert_stand("over", still, box("b", *shrunk))
            self.assert_stand("apart", still, box("b", *grown))
        self.assert_stand("over", still, box("b", 3 - HAIR, 1, shape=DIAMOND))
        self.assert_stand("over", still, box("b", 3 - HAIR, 2, shape=DIAMOND))
        self.assert_stand("apart", still, box("b", 3 + HAIR, 1, shape=DIAMOND))

    def test_one_wholly_inside_the_other(self):
        great = box("a", 0, 0, shape=((-90, -90), (90, -90), (90, 90), (-90, 90)))
        for shape in SHAPES:
            for x, y in [(0, 0), (11, -20), (Fraction(70, 3), Fraction(-1, 9)), (-88, 40)]:
                self.assert_stand("over", great, box("b", x, y, shape=shape))

    def test_two_alike_at_one_place(self):
        for shape in SHAPES + (HUGE,):
            self.assert_stand("over", box("a", 3, Fraction(1, 3), shape=shape), box("b", 3, Fraction(1, 3), shape=shape))

    def test_boxes_that_cross_with_no_corner_inside(self):
        flat = ((-5, -1), (5, -1), (5, 1), (-5, 1))
        tall = ((-1, -5), (1, -5), (1, 5), (-1, 5))
        self.assert_stand("over", box("a", 0, 0, shape=flat), box("b", 0, 0, shape=tall))
        self.assert_stand("over", box("a", 0, 0, shape=flat), box("b", Fraction(1, 3), 2, shape=tall))

    def test_thin_ones(self):
        self.assert_stand("over", box("a", 0, 0, shape=THIN), box("b", Fraction(1, 100), 0, shape=THIN))
        self.assert_stand("over", box("a", 0, 0, shape=THIN), box("b", 5, Fraction(5, 7), shape=EIGHT))
        self.assert_stand("apart", box("a", 0, 0, shape=THIN), box("b", 3, -2, shape=((0, 0), (2, 0), (0, 2))))
        sliver = ((-REACH, -REACH), (REACH, REACH - 1), (REACH, REACH))
        self.assert_stand("over", box("a", 0, 0, shape=sliver), box("b", 0, Fraction(1, 2), shape=sliver))
        self.assert_stand("apart", box("a", 0, 0, shape=sliver), box("b", 0, 1, shape=sliver))

    def test_walls_and_railed_ones(self):
        one, other = wall("a", BOX), wall("b", BOX, at=spot(1, 1))
        self.assert_stand("over", one, other)
        self.assert_stand("over", one, other, -7)
        self.assert_stand("apart", one, wall("b", BOX, at=spot(2, 1)), 7)
        cart = railed("c", BOX, rail=(1, 1), at=spot(-2, -2), speed=spot(1, 1))
        for after, word in [(0, "apart"), (HAIR, "over"), (2, "over"), (4 - HAIR, "over"), (4, "apart"), (-1, "apart")]:
            self.assert_stand(word, one, cart, after)

    def test_behind_a_time(self):
        one, other = box("a", 0, 0, (1, 0)), box("b", 5, 1, (Fraction(-1, 2), 0))
        for after, word in [(0, "apart"), (1, "apart"), (2, "apart"), (2 + HAIR, "over"), (3, "over"),
                            (Fraction(14, 3) - HAIR, "over"), (Fraction(14, 3), "apart"), (9, "apart"), (-9, "apart")]:
            self.assert_stand(word, one, other, after)
        back = box("a", 0, 0, (-1, 0)), box("b", 5, 1, (Fraction(1, 2), 0))
        for after, word in [(-2, "apart"), (-3, "over"), (Fraction(-14, 3), "apart"), (3, "apart")]:
            self.assert_stand(word, *back, after)

    def test_great_numbers(self):
        one = free("a", HUGE, at=spot(FAR, Fraction(-FAR, 3)), speed=spot(Fraction(1, FAR), 0))
        for x, word in [(2 * REACH, "apart"), (2 * REACH - HAIR, "over"), (1, "over"), (-2 * REACH, "apart")]:
            other = free("b", HUGE, at=spot(FAR + x, Fraction(-FAR, 3) - 1), speed=spot(Fraction(1, FAR), 0))
            self.assert_stand(word, one, other)
            self.assert_stand(word, one, other, FAR)
            self.assert_stand(word, one, other, Fraction(-FAR, 11))

    def test_many(self):
        dice = random.Random(8)
        words = {"over": 0, "apart": 0}
        for one, other in some_pairs(150, 9, 5, 3):
            after = Fraction(*some_share(dice, 3, 4))
            word = "over" if are_over(one, other, after) else "apart"
            words[word] += 1
            self.assert_stand(word, one, other, after)
        self.assertGreater(min(words.values()), 30)


class ApartHeld(Held, unittest.TestCase):

    one = box("a", 0, 0, (1, 0))
    other = box("b", 5, 1, (-1, 0), TRIANGLE)
    near = box("b", 1, 1, (-1, 0), TRIANGLE)

    def test_other_right_ways(self):
        for way in [(1, 0), (2, 1), (3, -1), (10 ** 30, 1), (1, -1)]:
            self.assertGreaterEqual(gap_of(self.one, self.other, way), 0)
            self.assert_held(True, apart_held, self.one, self.other, ("apart", way))
        self.assert_held(True, apart_held, self.one, box("b", 2, 2), ("apart", (5, 7)))

    def test_ways_along_which_they_are_not_apart(self):
        for way in [(-1, 0), (0, 1), (0, -1), (1, -5), (1, 10 ** 30), (-2, -1)]:
            self.assertLess(gap_of(self.one, self.other, way), 0)
            self.assert_held(False, apart_held, self.one, self.other, ("apart", way))
        for way in [(1, 0), (0, 1), (2, 3), (-2, -3), (0, -1), (-1, 0)]:
            self.assert_held(False, apart_held, self.one, self.near, ("apart", way))

    def test_other_right_spots(self):
        for x, y in [(Fraction(3, 2), Fraction(3, 2)), (1 + HAIR, 1 + HAIR), (2 - HAIR, 1 + HAIR),
                     (Fraction(19, 10), Fraction(7, 4)), (Fraction(101, 100), Fraction(199, 100))]:
            self.assert_held(True, apart_held, self.one, self.near, ("over", spot(x, y)))

    def test_spots_that_are_not_strictly_inside_both(self):
        for x, y in [(1, 1), (2, 1), (1, Fraction(3, 2)), (2, Fraction(3, 2)), (Fraction(3, 2), 1), (1, 2), (2, 2),
                     (3, Fraction(3, 2)), (Fraction(1, 2), Fraction(1, 2)), (Fraction(5, 2), Fraction(11, 10)),
                     (Fraction(3, 2), 3), (9, 9), (0, 0), (-1, 1), (FAR, FAR), (1 - HAIR, Fraction(3, 2)),
                     (2 + HAIR, Fraction(3, 2)), (Fraction(3, 2), 2)]:
            self.assert_held(False, apart_held, self.one, self.near, ("over", spot(x, y)))
            self.assert_held(False, apart_held, self.one, self.other, ("over", spot(x, y)))

    def test_wrong_ways(self):
        for way in [(2, 0), (0, 0), [1, 0], (True, 0), (1, False), (True, False), (1,), (1, 0, 0), ((1, 1), (0, 1)),
                    ("1", "0"), None, "10", {1: 0}, 1, (None, None), spot(3, 3)]:
            self.assert_held(False, apart_held, self.one, self.other, ("apart", way))

    def test_wrong_spots(self):
        for place in [((3, 2), (6, 4)), ((6, 4), (3, 2)), ((3, 2), [3, 2]), [(3, 2), (3, 2)], ((3, 2), 2), (1, 2), (3, 2),
                      ((3, 2), (3, 2), (3, 2)), ((3, 2),), ((-3, -2), (3, 2)), ((3, 2), (3, 0)), None, "3/2 3/2",
                      ("3/2", "3/2"), ((3, 2), (3, 2, 1)), ((3, 2), None), {0: (3, 2), 1: (3, 2)}]:
            self.assert_held(False, apart_held, self.one, self.near, ("over", place))
        great = box("a", 0, 0, shape=((-9, -9), (9, -9), (9, 9), (-9, 9)))
        self.assert_held(True, apart_held, great, self.near, ("over", spot(Fraction(3, 2), Fraction(3, 2))))
        about = box("b", -1, -1)
        self.assert_held(True, apart_held, great, about, ("over", ((0, 1), (0, 1))))
        for place in [(0, 0), ((0, True), (0, 1)), ((False, 1), (0, 1)), ((0, 1), (False, True)), ((0, 2), (0, 1)),
                      (False, False), ((0, 1), 0)]:
            self.assert_held(False, apart_held, great, about, ("over", place))

    def test_wrong_words(self):
        way, place = ("apart", (1, 0)), ("over", spot(Fraction(3, 2), Fraction(3, 2)))
        self.assert_held(True, apart_held, self.one, self.other, way)
        self.assert_held(True, apart_held, self.one, self.near, place)
        for word in ["over", "touch", "", "clear", "meets", "APART", "apart ", None, 0, True, ("apart",)]:
            self.assert_held(False, apart_held, self.one, self.other, (word, way[1]))
        for word in ["apart", "touch", "", "Over", " over", None, 1, False, ["over"]]:
            self.assert_held(False, apart_held, self.one, self.near, (word, place[1]))

    def test_wrong_forms(self):
        place = ("over", spot(Fraction(3, 2), Fraction(3, 2)))
        for paper in broken(("apart", (1, 0))) + ANYTHING:
            self.assert_held(False, apart_held, self.one, self.other, paper)
        for paper in broken(place) + ANYTHING:
            self.assert_held(False, apart_held, self.one, self.near, paper)
        for thing in ANYTHING:
            self.assert_held(False, apart_held, self.one, self.other, ("over", thing))
            if not is_way(thing):
                self.assert_held(False, apart_held, self.one, self.other, ("apart", thing))

    def test_right_for_another_time(self):
        # The gap of 3 along (1, 0) falls by 2 in a time of one.
        for after, good in [((0, 1), True), ((1, 1), True), ((3, 2), True), ((2, 1), False), ((-1, 1), True)]:
            self.assert_held(good, apart_held, self.one, self.other, ("apart", (1, 0)), after)
            self.assert_held(good, apart_held, self.one, self.other, paper=("apart", (1, 0)), after=after)
        inside = ("over", spot(Fraction(7, 2), Fraction(3, 2)))
        for after, good in [((0, 1), False), ((1, 1), False), ((3, 2), False), ((2, 1), True), ((-2, 1), False)]:
            self.assert_held(good, apart_held, self.one, self.other, inside, after)


if __name__ == "__main__":
    unittest.main()
