"""Points 33 and 34: what a beat does, act by act."""

import copy
import random
import time
import unittest
from fractions import Fraction

from helpers import (
    BOX, DIAMOND, LETTERS, Refusing, acts_due, are_over, box, room, some_room, some_spot, spot, told, values, wedges, with_speeds,
    world,
)
from restbodies.bodies import railed, wall
from restbodies.bounds import MEETINGS
from restbodies.errors import BodyError, Crowded, TooFine
from restbodies.meetings import met, pulled
from restbodies.pushes import moment, moving
from restbodies.rows import moved
from restbodies.spots import STILL
from restbodies.worlds import World, world_of

NOUGHT = (0, 1)
WHOLE = (1, 1)
HALF = (1, 2)
DOWN = spot(0, -1)
FLOOR = wall("floor", ((-9, -1), (9, -1), (9, 0), (-9, 0)))


def start(*rows, pull=STILL, give=NOUGHT, clock=NOUGHT):
    return world_of((pull, give, clock, rows))


def words(entry):
    return [act[0] for act in entry[2]]


def times_of(entry):
    return [Fraction(*act[1]) for act in entry[2] if act[0] == "fly"]


def plus(one, other):
    return told(Fraction(*one) + Fraction(*other))


class Acts(unittest.TestCase):

    def assert_beat(self, made, span, **named):
        """The beat is done, and its entry and the state behind it are as point 34 has them."""
        acts, state = acts_due(made.state(), span)
        ahead = made.story()
        entry = made.beat(span, **named)
        self.assertEqual(entry, ("beat", span, acts))
        self.assertEqual((made.state(), made.story()), (state, ahead + [entry]))
        self.assertEqual([type(part) for part in entry], [str, tuple, tuple])
        return entry

    def test_without_bodies(self):
        made = World(pull=DOWN)
        entry = self.assert_beat(made, (3, 2))
        self.assertEqual(entry, ("beat", (3, 2), (("pull", (), ()), ("fly", (3, 2), ()))))
        self.assertEqual(made.state(), (DOWN, NOUGHT, (3, 2), ()))

    def test_one_alone(self):
        made = start(box("b", 0, 0, (1, 0)), pull=DOWN, clock=(7, 1))
        entry = self.assert_beat(made, HALF)
        self.assertEqual(entry[2], (("pull", (), ()), ("fly", HALF, ())))
        self.assertEqual(made.state(), (DOWN, NOUGHT, (15, 2), (box("b", 0.5, -0.25, (1, -0.5)),)))

    def test_walls_alone(self):
        made = start(FLOOR, wall("w", BOX), pull=DOWN)
        self.assertEqual(self.assert_beat(made, WHOLE)[2], (("pull", (), ()), ("fly", WHOLE, ())))

    def between(self, give, speed=2, **more):
        return start(wall("v", BOX, at=spot(-2, 0)), wall("w", BOX, at=spot(8, 0)), box("b", 3, 0, (speed, 0)), give=give,
                     **more)

    def test_meets_just_at_the_end_of_the_span(self):
        made = self.between(WHOLE)
        self.assertEqual(words(self.assert_beat(made, (3, 2))), ["pull", "fly"])
        self.assertEqual(made.state()[3][0], box("b", 6, 0, (2, 0)))
        entry = self.assert_beat(made, (3, 1))
        self.assertEqual(words(entry), ["meet", "pull", "fly"])
        self.assertEqual(made.state()[3][0], box("b", 0, 0, (-2, 0)))
        entry = self.assert_beat(made, (3, 1))
        self.assertEqual(words(entry), ["meet", "pull", "fly"])

    def test_meets_many_times(self):
        made = self.between(WHOLE)
        entry = self.assert_beat(made, (20, 1))
        self.assertEqual(words(entry), ["pull", "fly"] + ["meet", "fly"] * 7)
        self.assertEqual(times_of(entry), [Fraction(3, 2)] + [3] * 6 + [Fraction(1, 2)])
        self.assertEqual(made.state()[2:], ((20, 1), (box("b", 5, 0, (-2, 0)),) + made.start()[3][1:]))

    def test_give_nought(self):
        made = self.between(NOUGHT)
        entry = self.assert_beat(made, (20, 1))
        self.assertEqual(words(entry), ["pull", "fly", "meet", "fly"])
        self.assertEqual(made.state()[3][0], box("b", 6, 0))

    def test_give_a_fraction(self):
        made = self.between(HALF)
        entry = self.assert_beat(made, (10, 1))
        self.assertEqual(times_of(entry), [Fraction(3, 2), 6, Fraction(5, 2)])
        self.assertEqual(made.state()[3][0], box("b", 1.25, 0, (0.5, 0)))

    def test_a_meeting_ahead_of_the_pull(self):
        made = start(box("b", 0, 0, (0, -4)), FLOOR, pull=DOWN, give=HALF)
        entry = self.assert_beat(made, WHOLE)
        self.assertEqual(words(entry), ["meet", "pull", "fly"])
        self.assertEqual(made.state()[3][0], box("b", 0, 1, (0, 1)))

    def test_the_pull_at_the_beginning_alone(self):
        made = start(box("b", 0, 3), FLOOR, pull=spot(0, -2), give=WHOLE)
        entry = self.assert_beat(made, (2, 1))
        self.assertEqual(words(entry), ["pull", "fly", "meet", "fly"])
        self.assertEqual(times_of(entry), [Fraction(3, 4), Fraction(5, 4)])
        self.assertEqual(made.state()[3][0], box("b", 0, 5, (0, 4)))

    def test_a_heap_that_stands_changes_the_clock_alone(self):
        made = start(box("a", 0, 0), box("b", 1, 2), FLOOR, pull=DOWN, give=WHOLE)
        entry = self.assert_beat(made, (9, 1))
        self.assertEqual(words(entry), ["pull", "fly"])
        self.assertEqual(made.state(), made.start()[:2] + ((9, 1), made.start()[3]))

    def test_several_meetings_at_one_time(self):
        made = start(box("a", 0, 0, (1, 0)), box("b", 3, 0), box("c", 0, 9, (1, 0)), box("d", 3, 9), give=WHOLE)
        entry = self.assert_beat(made, (2, 1))
        self.assertEqual(words(entry), ["pull", "fly", "meet", "fly"])
        self.assertEqual(entry[2][2][1], (("a", "b", (1, 0)), ("c", "d", (1, 0))))
        self.assertEqual(made.state()[3], (box("a", 1, 0), box("b", 4, 0, (1, 0)), box("c", 1, 9), box("d", 4, 9, (1, 0))))

    def test_a_row_that_knocks_on(self):
        made = start(box("a", 0, 0, (3, 0)), box("b", 3, 0), box("c", 6, 0), wall("w", BOX, at=spot(9, 0)), give=WHOLE)
        entry = self.assert_beat(made, (2, 1))
        self.assertEqual(words(entry), ["pull", "fly", "meet", "fly", "meet", "fly", "meet", "fly", "meet", "fly", "meet",
                                        "fly"])
        self.assertEqual(made.state()[3][:3], (box("a", 0, 0, (-3, 0)), box("b", 3, 0), box("c", 6, 0)))

    def test_railed_ones(self):
        made = start(railed("r", BOX, rail=(1, 0), speed=spot(1, 0)), railed("s", BOX, rail=(0, 1), at=spot(5, 8)), FLOOR,
                     pull=DOWN)
        entry = self.assert_beat(made, (4, 1))
        self.assertEqual(words(entry), ["pull", "fly", "meet", "fly", "meet", "fly"])
        self.assertEqual(times_of(entry), [2, 1, 1])
        r, s = made.state()[3][1:]
        self.assertEqual((r[4:], s[4:]), ((spot(3, 0), STILL), (spot(5, 0), STILL)))

    def test_many(self):
        dice = random.Random(110)
        meetings = 0
        for _ in range(25):
            made = start(*some_room(dice, dice.randint(2, 6)), pull=some_spot(dice, 2, 2), give=told(Fraction(dice.randint(0, 3), 3)))
            for _ in range(2):
                try:
                    entry = self.assert_beat(made, told(Fraction(1, dice.randint(1, 4))))
                except Crowded:
                    break
                meetings += words(entry).count("meet")
                self.assertEqual(sum(times_of(entry)), Fraction(*entry[1]))
        self.assertGreater(meetings, 40)

    def test_back_behind_it(self):
        made = self.between(WHOLE)
        state = made.state()
        entry = made.beat((20, 1))
        self.assertEqual(made.back(), entry)
        self.assertEqual((made.state(), made.story()), (state, []))
        self.assertEqual(made.beat((20, 1)), entry)


class Bounds(Refusing, unittest.TestCase):

    def between(self, clock=NOUGHT, speed=24):
        """A body that meets a wall once each time of one over its speed."""
        return start(wall("v", BOX, at=spot(-2, 0)), wall("w", BOX, at=spot(3, 0)), box("b", 0, 0, (speed, 0)), give=WHOLE,
                     clock=clock)

    def test_most(self):
        for count in [0, 1, 2, 7, MEETINGS]:
            made = self.between(clock=(5, 2))
            span = told(Fraction(count + 1, 24))
            entry = made.beat(span, most=count)
            self.assertEqual(words(entry).count("meet"), count)
            made.back()
            fields = self.assert_refused(Crowded, made, made.beat, plus(span, (1, 1000)), most=count)
            self.assertEqual(fields, {"clock": plus((5, 2), span)})
        made = self.between()
        fields = self.assert_refused(Crowded, made, made.beat, (2, 1))
        self.assertEqual(fields, {"clock": (25, 24)})

    def test_the_meeting_ahead_of_the_pull_counts(self):
        made = start(box("b", 0, 0, (0, -1)), FLOOR, give=HALF, clock=(3, 1))
        self.assertEqual(self.assert_refused(Crowded, made, made.beat, most=0), {"clock": (3, 1)})
        made.beat(most=1)
        made = start(box("b", 0, 0, (0, -1)), wall("v", BOX, at=spot(0, 4)), FLOOR, give=WHOLE)
        self.assertEqual(self.assert_refused(Crowded, made, made.beat, (3, 1), most=1), {"clock": (2, 1)})
        self.assertEqual(self.assert_refused(Crowded, made, made.beat, (5, 1), most=2), {"clock": (4, 1)})

    def test_too_fine_behind_the_meeting_ahead_of_the_pull(self):
        made = start(box("a", 0, 0, (told_long(1), 0)), box("b", 2, 0, (-told_long(2), 0)))
        self.assert_refused(TooFine, made, made.beat)
        self.assertEqual(self.assert_refused(Crowded, made, made.beat, most=0), {"clock": NOUGHT})

    def test_too_fine_behind_that_meeting_alone(self):
        one, other = 10 ** 250 + 1, 10 ** 250 + 3
        rows = [box("a", 0, 0, (Fraction(1, one), 0)), box("b", 2, 0, (Fraction(-1, other), 0))]
        made = start(*rows, pull=spot(Fraction(-1, one), 0))
        self.assert_refused(TooFine, made, made.beat, (1, other))
        acts, state = acts_due(made.state(), (1, other))
        self.assertEqual(state[3], (box("a", 0, 0), box("b", 2, 0)))

    def test_too_fine_behind_a_flight_alone(self):
        slow = Fraction(1, 10 ** 250 + 7)
        rows = [box("a", 0, 0, (1, 0)), box("b", 2 + Fraction(1, 10 ** 250), 0), box("c", 50, 0, (slow, 0))]
        made = start(*rows)
        self.assert_refused(TooFine, made, made.beat)
        acts, state = acts_due(made.state(), WHOLE)
        self.assertEqual(state[3][2], box("c", 50 + slow, 0, (slow, 0)))
        self.assertLess(max(number for row in state[3] for each in row[4:] for part in each for number in part), 10 ** 400)
        start(*rows[:2]).beat()

    def test_too_fine_behind_the_pull(self):
        made = start(box("a", 0, 0), pull=spot(0, Fraction(-1, 10 ** 300)))
        self.assert_refused(TooFine, made, made.beat, (1, 10 ** 300 + 1))
        made.beat((1, 10 ** 40))
        made = start(box("a", 0, 0), FLOOR, pull=spot(0, Fraction(-1, 10 ** 300)))
        made.beat((1, 10 ** 300 + 1))

    def test_too_fine_behind_a_flight(self):
        made = start(box("a", 0, 0, (Fraction(1, 10 ** 300), 0)))
        self.assert_refused(TooFine, made, made.beat, (1, 10 ** 300 + 1))
        made = start(box("a", 0, 0), clock=(1, 10 ** 300))
        self.assert_refused(TooFine, made, made.beat, (1, 10 ** 300 + 1))
        made.beat((1, 10 ** 300))
        self.assertEqual(made.state()[2], told(Fraction(2, 10 ** 300)))
        made = start(box("a", 0, 0, (10 ** 399, 0)))
        self.assert_refused(TooFine, made, made.beat, (10, 1))
        made.beat((9, 1))
        made = World()
        made.beat((10 ** 400 - 1, 1))
        self.assert_refused(TooFine, made, made.beat)

    def test_too_fine_ahead_of_crowded_behind_a_flight(self):
        slow = Fraction(1, 10 ** 250 + 7)
        made = start(box("a", 0, 0, (1, slow)), box("b", 2 + Fraction(1, 10 ** 250), 0))
        self.assert_refused(TooFine, made, made.beat, most=0)
        made = start(box("a", 0, 0, (1, 0)), box("b", 2 + Fraction(1, 10 ** 250), 0))
        fields = self.assert_refused(Crowded, made, made.beat, most=0)
        self.assertEqual(fields, {"clock": (1, 10 ** 250)})

    def test_crowded_ahead_of_a_later_too_fine(self):
        slow = Fraction(1, 10 ** 250 + 7)
        rows = [box("a", 0, 0, (1, 0)), box("b", 3, 0), box("c", 50, 0, (1, slow)), box("d", 54 + Fraction(1, 10 ** 250), 0)]
        made = start(*rows)
        self.assertEqual(self.assert_refused(Crowded, made, made.beat, (9, 1), most=0), {"clock": (1, 1)})
        self.assert_refused(TooFine, made, made.beat, (9, 1), most=1)

    def test_numbers_longer_than_python_writes(self):
        dice = random.Random(111)
        rows = []
        for at, name in enumerate(LETTERS):
            x, y = [Fraction(dice.randrange(10 ** 395), dice.randrange(10 ** 395, 10 ** 396)) for _ in range(2)]
            rows.append(box(name, 2 * (at // 4), 2 * (at % 4), (x - 10 * (at // 4), y - 10 * (at % 4)), mass=at + 1))
        made = start(*rows, give=(1, 3))
        begun = time.process_time()
        self.assert_refused(TooFine, made, made.beat)
        self.assertLess(time.process_time() - begun, 20)

    def test_a_bound_on_what_comes_of_it_alone(self):
        number = Fraction(10 ** 400 - 1, 7)
        made = start(box("a", number, 0, (-number, 0)))
        made.beat()
        self.assertEqual(made.state()[3], (box("a", 0, 0, (-number, 0)),))


def told_long(number):
    return Fraction(number, 10 ** 300 + number)


class NeverOver(unittest.TestCase):

    def assert_clear(self, rows, span):
        """No two are over at the ends of a flight nor at some instants between."""
        for at, one in enumerate(rows):
            for other in rows[at + 1:]:
                if one[2] > 0 or other[2] > 0:
                    for part in [Fraction(1, 97), Fraction(1, 2), Fraction(1)]:
                        self.assertFalse(are_over(one, other, part * Fraction(*span)))

    def walk(self, state, entry):
        """The rows at each flight's beginning, with its span."""
        pull, give, clock, rows = state
        kick = tuple(told(part * Fraction(*entry[1])) for part in values(pull))
        for act in entry[2]:
            if act[0] == "meet":
                behind = met(rows, give, act)
                self.assertLessEqual(Fraction(*moving(behind)), Fraction(*moving(rows)))
                rows = behind
            elif act[0] == "pull":
                rows = pulled(rows, kick, act)
            else:
                self.assert_clear(rows, act[1])
                rows = tuple(moved(row, act[1]) for row in rows)

    def run_beats(self, made, spans):
        for span in spans:
            state = copy.deepcopy(made.state())
            try:
                entry = made.beat(span)
            except BodyError as refused:
                self.assertIn(type(refused), (Crowded, TooFine))
                self.assertEqual(made.state(), state)
                made.turn()
                continue
            self.walk(state, entry)

    def test_rooms(self):
        dice = random.Random(112)
        for _ in range(5):
            made = start(*some_room(dice, 6), pull=some_spot(dice, 3, 2), give=told(Fraction(dice.randint(0, 2), 2)))
            self.run_beats(made, [WHOLE, HALF, (1, 3), WHOLE])

    def test_a_heap_that_falls_into_a_room(self):
        rows = room(9) + [box(name, x, y, shape=shape, mass=at + 1) for at, (name, shape, x, y) in enumerate([
            ("a", BOX, 0, 0), ("b", BOX, 2, 0), ("c", DIAMOND, 2, 3), ("d", BOX, 5, 2), ("e", DIAMOND, 6, 5),
            ("f", BOX, 3, 5), ("g", DIAMOND, 1, 7)])]
        for give in [NOUGHT, HALF]:
            made = start(*rows, pull=DOWN, give=give)
            self.run_beats(made, [HALF] * 6)

    def test_wedges_that_close_on_one_spot(self):
        dice = random.Random(113)
        rows = wedges()
        speeds = {row[0]: (dice.randint(-3, 3), dice.randint(-3, 3)) for row in rows}
        for give in [NOUGHT, HALF, WHOLE]:
            made = start(*with_speeds(rows, speeds), give=give)
            moment_ahead = moment(made.state()[3])
            self.run_beats(made, [(1, 4)] * 3)
            self.assertEqual(moment(made.state()[3]), moment_ahead)


if __name__ == "__main__":
    unittest.main()
