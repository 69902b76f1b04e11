"""Points 29, 30 and 31."""

import copy
import inspect
import random
import time
import unittest
from fractions import Fraction

from helpers import (
    ANYTHING, BOX, DIAMOND, LETTERS, Held, box, broken, do_hold, some_heap, some_spot, speeds_behind, spot, told,
    values, wedges, with_speeds, world,
)
from restbodies import meetings as module
from restbodies.bodies import body_of, railed, wall
from restbodies.contacts import closing, contacts, parting
from restbodies.errors import Calm, Early, Over
from restbodies.meetings import meeting, meeting_held, met, pull_held, pulled, pulling
from restbodies.pushes import moment, moving, pushed
from restbodies.shares import is_share
from restbodies.spots import STILL
from restbodies.standing import standing
from restbodies.times import first

NOUGHT = (0, 1)
WHOLE = (1, 1)
HALF = (1, 2)
GIVES = (NOUGHT, WHOLE, HALF, (2, 7))
DOWN = spot(0, -1)
FLOOR = wall("floor", ((-9, -1), (9, -1), (9, 0), (-9, 0)))


def speeds_of(rows):
    return {row[0]: row[5] for row in rows}


def given_back(rows, given, pushes, give):
    """The rows with the speeds behind the first pushes and give, by point 29."""
    behind = speeds_behind(rows, given, pushes)
    part = Fraction(*give)
    speeds = {}
    for row in rows:
        (x, y), (u, v) = values(row[5]), behind[row[0]]
        speeds[row[0]] = (u + part * (u - x), v + part * (v - y))
    return with_speeds(rows, speeds)


def is_meeting(rows, give, act):
    """Whether an act in its right form is a meeting of the rows."""
    word, given, pushes, more = act
    right = word == "meet" and given == contacts(rows) and any(parting(rows, contact)[0] < 0 for contact in given)
    return right and do_hold(rows, given, pushes) and do_hold(given_back(rows, given, pushes, give), given, more)


def kicked(rows, kick):
    speeds = {}
    for row in rows:
        (x, y), (u, v) = values(row[5]), values(body_of(row).kick(kick))
        speeds[row[0]] = (x + u, y + v)
    return with_speeds(rows, speeds)


def is_pull(rows, kick, act):
    word, given, pushes = act
    right = word == "pull" and given == contacts(rows) and all(parting(rows, contact)[0] >= 0 for contact in given)
    return right and do_hold(kicked(rows, kick), given, pushes)


def fallen(heap, dice):
    """The heap with some speeds that the bodies may have."""
    speeds = {}
    for row in heap:
        if row[2] > 0:
            x, y = dice.randint(-3, 3), dice.randint(-3, 3)
            speeds[row[0]] = (x, y) if row[3] is None else (x * row[3][0], x * row[3][1])
    return with_speeds(heap, speeds)


class Interface(unittest.TestCase):

    def test_arguments(self):
        for name, arguments in [
            ("meeting", "(rows, give)"), ("met", "(rows, give, act)"), ("meeting_held", "(rows, give, act)"),
            ("pulling", "(rows, kick)"), ("pulled", "(rows, kick, act)"), ("pull_held", "(rows, kick, act)"),
        ]:
            self.assertEqual(str(inspect.signature(getattr(module, name))), arguments)
            self.assertEqual(getattr(module, name).__module__, "restbodies.meetings")


class Behind(unittest.TestCase):
    """What holds behind each meeting and each pull."""

    def assert_form(self, act, word, count):
        self.assertIs(type(act), tuple)
        self.assertEqual((act[0], len(act)), (word, count))
        for pushes in act[2:]:
            self.assertIs(type(pushes), tuple)
            self.assertEqual(len(pushes), len(act[1]))
            self.assertTrue(all(is_share(push) for push in pushes))

    def assert_rows(self, rows, behind, given):
        """The same bodies at the same places, and no contact closes, by the contacts now either."""
        self.assertIs(type(behind), tuple)
        self.assertEqual([row[:5] for row in behind], [row[:5] for row in rows])
        self.assertTrue(all(body_of(row).may(row[5]) for row in behind))
        self.assertFalse(closing(behind, given))
        self.assertFalse(closing(behind, contacts(behind)))
        for low, high, way in given:
            one, other = [row for row in behind if row[0] in (low, high)]
            paper = first(one, other, (10 ** 6, 1))
            self.assertTrue(paper[0] == "clear" or paper[1][0] > 0)

    def assert_met(self, rows, give):
        kept = copy.deepcopy((rows, give))
        act = meeting(rows, give)
        self.assert_form(act, "meet", 4)
        self.assertTrue(is_meeting(rows, give, act))
        self.assertIs(meeting_held(rows, give, act), True)
        self.assertEqual(meeting(rows, give), act)
        behind = met(rows, give, act)
        self.assert_rows(rows, behind, act[1])
        middle = given_back(rows, act[1], act[2], give)
        self.assertEqual(behind, pushed(middle, act[1], act[3]))
        self.assertLessEqual(Fraction(*moving(behind)), Fraction(*moving(rows)))
        if give == WHOLE and all(push == NOUGHT for push in act[3]):
            self.assertEqual(moving(behind), moving(rows))
        if all(row[2] > 0 and row[3] is None for row in rows):
            self.assertEqual(moment(behind), moment(rows))
        self.assertEqual((rows, give), kept)
        return act, speeds_of(behind)

    def assert_pulled(self, rows, kick):
        kept = copy.deepcopy((rows, kick))
        act = pulling(rows, kick)
        self.assert_form(act, "pull", 3)
        self.assertTrue(is_pull(rows, kick, act))
        self.assertIs(pull_held(rows, kick, act), True)
        self.assertEqual(pulling(rows, kick), act)
        behind = pulled(rows, kick, act)
        self.assert_rows(rows, behind, act[1])
        self.assertEqual(behind, pushed(kicked(rows, kick), act[1], act[2]))
        self.assertEqual((rows, kick), kept)
        return act, speeds_of(behind)


class Meetings(Behind):

    def test_a_body_against_a_wall(self):
        rows = world(box("b", 0, 0, (3, -4), mass=5), FLOOR)
        for give, height in [(NOUGHT, 0), (WHOLE, 4), (HALF, 2), ((1, 3), Fraction(4, 3))]:
            act, speeds = self.assert_met(rows, give)
            self.assertEqual(act, ("meet", (("b", "floor", (0, -1)),), ((20, 1),), (NOUGHT,)))
            self.assertEqual(speeds, {"b": spot(3, height), "floor": STILL})

    def test_two_bodies_of_unlike_masses(self):
        rows = world(box("a", 0, 0, (4, 1), mass=3), box("b", 2, 1, (-1, 0)))
        act, speeds = self.assert_met(rows, NOUGHT)
        self.assertEqual(act, ("meet", (("a", "b", (1, 0)),), ((15, 4),), (NOUGHT,)))
        self.assertEqual(speeds, {"a": spot(Fraction(11, 4), 1), "b": spot(Fraction(11, 4), 0)})
        act, speeds = self.assert_met(rows, WHOLE)
        self.assertEqual(speeds, {"a": spot(Fraction(3, 2), 1), "b": spot(Fraction(13, 2), 0)})
        act, speeds = self.assert_met(rows, HALF)
        self.assertEqual(speeds, {"a": spot(Fraction(17, 8), 1), "b": spot(Fraction(37, 8), 0)})

    def test_a_row_that_knocks_on(self):
        rows = world(box("a", 0, 0, (3, 0)), box("b", 2, 0), box("c", 4, 0))
        act, speeds = self.assert_met(rows, NOUGHT)
        self.assertEqual(act[2], ((2, 1), (1, 1)))
        self.assertEqual(set(speeds.values()), {spot(1, 0)})
        act, speeds = self.assert_met(rows, WHOLE)
        self.assertEqual(act[3], (NOUGHT, NOUGHT))
        self.assertEqual(speeds, {"a": spot(-1, 0), "b": spot(2, 0), "c": spot(2, 0)})
        for give in GIVES:
            self.assert_met(world(*rows, wall("w", BOX, at=spot(6, 0))), give)

    def test_several_contacts_and_more(self):
        rows = world(box("a", 0, 0, (4, 0), mass=2), box("b", 2, 0, (3, 0)), box("c", 4, 0))
        act, speeds = self.assert_met(rows, WHOLE)
        self.assertEqual(act[1], (("a", "b", (1, 0)), ("b", "c", (1, 0))))
        self.assertEqual(act[3], (NOUGHT, NOUGHT))
        rows = world(box("a", 0, 0, (1, 0)), box("b", 2, 0, (2, 0)), box("c", 4, 0))
        act, speeds = self.assert_met(rows, NOUGHT)
        self.assertEqual(speeds, {name: spot(1, 0) for name in "abc"})
        rows = world(box("a", 0, 0, (1, 0)), box("b", 2, 0, (Fraction(3, 2), 0)), box("c", 4, 0))
        act, speeds = self.assert_met(rows, WHOLE)
        self.assertEqual(act[2], ((1, 6), (5, 6)))
        self.assertEqual(act[3], ((1, 4), NOUGHT))
        self.assertEqual(speeds, {"a": spot(Fraction(5, 12), 0), "b": spot(Fraction(5, 12), 0), "c": spot(Fraction(5, 3), 0)})

    def test_more_that_is_not_nought(self):
        rows = world(box("a", 0, 0), box("b", 2, 0, (2, 0)), box("c", 4, 0), wall("w", BOX, at=spot(6, 0)))
        act, speeds = self.assert_met(rows, WHOLE)
        self.assertEqual(act[2], (NOUGHT, (2, 1), (2, 1)))
        self.assertEqual(act[3], ((1, 1), NOUGHT, NOUGHT))
        self.assertEqual(speeds, {"a": spot(-1, 0), "b": spot(-1, 0), "c": STILL, "w": STILL})
        behind = met(rows, WHOLE, act)
        self.assertLess(Fraction(*moving(behind)), Fraction(*moving(rows)))
        act, speeds = self.assert_met(rows, HALF)
        self.assertEqual(act[3], ((1, 2), NOUGHT, NOUGHT))
        act, speeds = self.assert_met(rows, NOUGHT)
        self.assertEqual(act[3], (NOUGHT, NOUGHT, NOUGHT))

    def test_one_closes_and_one_does_not(self):
        rows = world(box("a", 0, 0, (1, 0)), box("b", 2, 0), box("c", 0, 2, (0, 3)), box("d", 9, 9), box("e", 11, 9))
        for give in GIVES:
            act, speeds = self.assert_met(rows, give)
            self.assertEqual(act[1], (("a", "b", (1, 0)), ("a", "c", (0, 1)), ("b", "c", (-1, 1)), ("d", "e", (1, 0))))
            self.assertEqual(act[2], (HALF, NOUGHT, NOUGHT, NOUGHT))
            self.assertEqual(speeds["c"], spot(0, 3))

    def test_railed_ones(self):
        rows = world(railed("r", BOX, rail=(1, 1), mass=2, speed=spot(3, 3)), box("s", 2, 0), FLOOR)
        for give in GIVES:
            self.assert_met(rows, give)
        act, speeds = self.assert_met(rows, NOUGHT)
        self.assertEqual(speeds["r"], spot(Fraction(12, 5), Fraction(12, 5)))

    def test_corners_that_meet(self):
        rows = world(box("a", 0, 0, (1, 1)), box("b", 2, 2))
        for give in GIVES:
            act, speeds = self.assert_met(rows, give)
            self.assertEqual(act[1], (("a", "b", (1, 1)),))
        rows = world(box("a", 0, 0, (1, 1)), box("b", 2, 2), box("c", 2, 0), box("d", 0, 2, (0, -1)))
        for give in GIVES:
            self.assert_met(rows, give)

    def test_calm(self):
        calm = [(), (FLOOR,), (box("a", 0, 0, (1, 0)),), world(box("a", 0, 0, (9, 0)), box("b", 3, 0)),
                world(box("a", 0, 0, (-1, 0)), box("b", 2, 0)), world(box("a", 0, 0, (1, 0)), box("b", 2, 0, (1, 5))),
                world(box("a", 0, 0, (5, 0)), FLOOR), world(box("a", 0, 0, (1, 2)), box("b", 2, 2, (0, 3)))]
        for rows in calm:
            for give in GIVES:
                with self.assertRaises(Calm):
                    meeting(rows, give)
                for act in [("meet", contacts(rows), (NOUGHT,) * len(contacts(rows)), (NOUGHT,) * len(contacts(rows))),
                            None]:
                    self.assertIs(meeting_held(rows, give, act), False)

    def test_many(self):
        dice = random.Random(80)
        met_count = more_count = 0
        for _ in range(250):
            rows = fallen(some_heap(dice, dice.randint(2, 7)), dice)
            give = dice.choice(GIVES)
            if closing(rows, contacts(rows)):
                act, speeds = self.assert_met(rows, give)
                met_count += 1
                more_count += any(push != NOUGHT for push in act[3])
        self.assertGreater(met_count, 80)
        self.assertGreater(more_count, 5)

    def test_twelve(self):
        dice = random.Random(81)
        start = time.process_time()
        heaps = [wedges(), tuple(box(name, 2 * (at // 4), 2 * (at % 4)) for at, name in enumerate(LETTERS))]
        heaps += [some_heap(dice, 12, 6, tries=400) for _ in range(5)]
        for heap in heaps:
            rows = fallen(heap, dice)
            while not closing(rows, contacts(rows)):
                rows = fallen(heap, dice)
            for give in GIVES:
                self.assert_met(rows, give)
        self.assertLess(time.process_time() - start, 25)


def long_share(dice):
    return Fraction(dice.randrange(10 ** 398), dice.randrange(10 ** 397, 10 ** 398))


class LongNumbers(Behind):

    def test_longer_than_python_writes(self):
        dice = random.Random(82)
        rows = tuple(box(name, 2 * (at // 2), 2 * (at % 2), (long_share(dice) - 9 * (at // 2), long_share(dice) - at % 2))
                     for at, name in enumerate(LETTERS[:8]))
        start = time.process_time()
        act = meeting(rows, (1, 3))
        self.assertTrue(max(push[1] for push in act[2]) > 10 ** 4300)
        self.assertTrue(meeting_held(rows, (1, 3), act))
        behind = met(rows, (1, 3), act)
        self.assertTrue(moment(behind) == moment(rows))
        self.assertFalse(closing(behind, act[1]))
        act = pulling(behind, DOWN)
        self.assertTrue(pull_held(behind, DOWN, act))
        pulled(behind, DOWN, act)
        self.assertLess(time.process_time() - start, 20)


class MeetingHeld(Held, unittest.TestCase):

    rows = world(box("a", 0, 0), box("b", 2, 0, (2, 0)), box("c", 4, 0), wall("w", BOX, at=spot(6, 0)))
    act = ("meet", (("a", "b", (1, 0)), ("b", "c", (1, 0)), ("c", "w", (1, 0))), (NOUGHT, (2, 1), (2, 1)),
           ((1, 1), NOUGHT, NOUGHT))

    def refuse(self, act, give=WHOLE):
        self.assert_held(False, meeting_held, self.rows, give, act)

    def test_other_right_pushes(self):
        rows = world(box("a", 0, 0, (0, -2), mass=2), box("b", -1, 2, (0, -2)), box("c", 1, 2, (0, -2)), FLOOR,
                     box("d", 0, 4, (0, -2)))
        given = contacts(rows)
        for give in [NOUGHT, WHOLE]:
            word, given, pushes, more = meeting(rows, give)
            by_pair = {contact[:2]: push for contact, push in zip(given, pushes)}
            for share in [Fraction(0), Fraction(1, 3), Fraction(1), Fraction(2)]:
                changed = dict(by_pair)
                changed["b", "d"], changed["c", "d"] = told(share), told(2 - share)
                changed["a", "b"], changed["a", "c"] = told(2 + share), told(4 - share)
                act = (word, given, tuple(changed[contact[:2]] for contact in given), more)
                self.assert_held(True, meeting_held, rows, give, act)
                self.assertEqual(met(rows, give, act), met(rows, give, meeting(rows, give)))
            act = (word, given, tuple({**by_pair, ("b", "d"): (3, 1), ("c", "d"): (-1, 1)}[each[:2]] for each in given), more)
            self.assert_held(False, meeting_held, rows, give, act)

    def test_where_no_contact_closes(self):
        rows = world(box("a", 0, 0), box("b", 2, 0))
        self.assert_held(False, meeting_held, rows, WHOLE, ("meet", (("a", "b", (1, 0)),), (NOUGHT,), (NOUGHT,)))
        self.assert_held(False, meeting_held, (), WHOLE, ("meet", (), (), ()))

    def test_pushes_that_do_not_hold(self):
        self.assert_held(True, meeting_held, self.rows, WHOLE, self.act)
        word, given, pushes, more = self.act
        for wrong in [(NOUGHT,) * 3, (NOUGHT, (2, 1), (1, 1)), (NOUGHT, (3, 1), (3, 1)), ((1, 1), (2, 1), (2, 1)),
                      ((-1, 1), (2, 1), (2, 1)), (NOUGHT, (2, 1)), pushes + (NOUGHT,), pushes[::-1]]:
            self.refuse((word, given, wrong, more))
            self.refuse((word, given, wrong, (NOUGHT,) * 3))

    def test_more_that_does_not_hold(self):
        word, given, pushes, more = self.act
        for wrong in [(NOUGHT,) * 3, ((2, 1), NOUGHT, NOUGHT), ((-1, 1), NOUGHT, NOUGHT), more[:2], more + (NOUGHT,),
                      more[::-1], ((1, 1), (1, 1), NOUGHT)]:
            self.refuse((word, given, pushes, wrong))

    def test_more_that_holds_of_the_rows_alone(self):
        word, given, pushes, more = self.act
        self.refuse((word, given, pushes, pushes))
        rows = world(box("a", 0, 0, (2, 0)), box("b", 2, 0))
        given = (("a", "b", (1, 0)),)
        for give in GIVES:
            self.assert_held(True, meeting_held, rows, give, ("meet", given, (WHOLE,), (NOUGHT,)))
            self.assert_held(False, meeting_held, rows, give, ("meet", given, (WHOLE,), (WHOLE,)))
            self.assert_held(False, meeting_held, rows, give, ("meet", given, (NOUGHT,), (WHOLE,)))

    def test_other_contacts(self):
        word, given, pushes, more = self.act
        for other in [given[::-1], given[:2], given + given[:1], (given[1], given[0], given[2]), (),
                      (("b", "a", (-1, 0)),) + given[1:], (("a", "b", (-1, 0)),) + given[1:], given[1:]]:
            count = len(other)
            self.refuse((word, other, pushes[:count], more[:count]))
        self.refuse((word, given[1:], pushes[1:], more[1:]))
        self.refuse((word, given[::-1], pushes[::-1], more[::-1]))

    def test_another_give(self):
        for give in [NOUGHT, HALF, (99, 100)]:
            self.refuse(self.act, give)
            self.assert_held(True, meeting_held, self.rows, give, meeting(self.rows, give))
        self.refuse(meeting(self.rows, HALF))

    def test_a_pull_in_its_place(self):
        word, given, pushes, more = self.act
        self.refuse(("pull", given, pushes))
        self.refuse(("pull", given, pushes, more))
        self.refuse(("meet", given, pushes))

    def test_wrong_forms(self):
        for act in broken(self.act) + ANYTHING:
            self.refuse(act)
        word, given, pushes, more = self.act
        for push in [(2, 2), (True, 1), (1, True), 1, True, [1, 1], (1,), None, "1", (1, 1, 1)]:
            self.refuse((word, given, pushes, (push, NOUGHT, NOUGHT)))
        for push in [(4, 2), 2, (2, True), [2, 1], (2, 1, 1)]:
            self.refuse((word, given, (NOUGHT, push, (2, 1)), more))
        for way in [(True, 0), (1, False), (2, 0), [1, 0]]:
            self.refuse((word, (("a", "b", way),) + given[1:], pushes, more))
        for thing in ANYTHING:
            self.refuse((thing, given, pushes, more))
            self.refuse((word, thing, pushes, more))
            self.refuse((word, given, thing, more))
            self.refuse((word, given, pushes, thing))

    def test_random_changes(self):
        dice = random.Random(83)
        good = 0
        for _ in range(200):
            rows = fallen(some_heap(dice, dice.randint(2, 5)), dice)
            if not closing(rows, contacts(rows)):
                continue
            give = dice.choice(GIVES)
            word, given, pushes, more = meeting(rows, give)
            at = dice.randrange(len(given))
            push = dice.choice([NOUGHT, WHOLE, HALF, pushes[at], more[at]])
            for act in [(word, given, pushes[:at] + (push,) + pushes[at + 1:], more),
                        (word, given, pushes, more[:at] + (push,) + more[at + 1:])]:
                due = is_meeting(rows, give, act)
                good += due
                self.assert_held(due, meeting_held, rows, give, act)
        self.assertGreater(good, 30)


class Pulls(Behind):

    def test_on_a_heap_that_stands(self):
        rows = world(box("a", 0, 0), box("b", 0, 2, mass=3), FLOOR)
        act, speeds = self.assert_pulled(rows, spot(0, -2))
        self.assertEqual(act, ("pull", (("a", "b", (0, 1)), ("a", "floor", (0, -1))), ((6, 1), (8, 1))))
        self.assertEqual(set(speeds.values()), {STILL})

    def test_on_one_that_does_not(self):
        rows = world(box("a", 0, 0), box("b", 0, 2, mass=3), FLOOR)
        act, speeds = self.assert_pulled(rows, spot(1, -2))
        self.assertEqual(speeds, {"a": spot(1, 0), "b": spot(1, 0), "floor": STILL})
        act, speeds = self.assert_pulled(rows, spot(0, 5))
        self.assertEqual(speeds, {"a": spot(0, 5), "b": spot(0, 5), "floor": STILL})
        rows = world(box("a", 0, 0), box("b", 2, 0), wall("w", BOX, at=spot(4, 0)))
        act, speeds = self.assert_pulled(rows, spot(1, -2))
        self.assertEqual(speeds, {"a": spot(0, -2), "b": spot(0, -2), "w": STILL})
        act, speeds = self.assert_pulled(rows, spot(-1, -2))
        self.assertEqual(speeds, {"a": spot(-1, -2), "b": spot(-1, -2), "w": STILL})

    def test_on_bodies_that_go(self):
        rows = world(box("a", 0, 0, (1, 0)), box("b", 2, 0, (2, 1)), FLOOR)
        act, speeds = self.assert_pulled(rows, spot(Fraction(1, 2), -5))
        self.assertEqual(speeds, {"a": spot(Fraction(3, 2), 0), "b": spot(Fraction(5, 2), 0), "floor": STILL})
        act, speeds = self.assert_pulled((box("a", 0, 0, (1, 0)),), spot(7, Fraction(-1, 3)))
        self.assertEqual(speeds, {"a": spot(8, Fraction(-1, 3))})

    def test_railed_ones_and_walls(self):
        rows = world(railed("r", BOX, rail=(1, 0), mass=4, speed=spot(2, 0)), FLOOR)
        act, speeds = self.assert_pulled(rows, spot(3, -7))
        self.assertEqual((act[2], speeds["r"]), ((NOUGHT,), spot(5, 0)))
        rows = (railed("r", BOX, rail=(1, 2), mass=4),)
        act, speeds = self.assert_pulled(rows, spot(3, 1))
        self.assertEqual(speeds, {"r": spot(1, 2)})
        act, speeds = self.assert_pulled(rows, spot(-2, 1))
        self.assertEqual(speeds, {"r": STILL})
        rows = world(railed("r", BOX, rail=(1, 1)), box("s", 2, 0), FLOOR)
        self.assert_pulled(rows, spot(3, -1))
        act, speeds = self.assert_pulled((FLOOR,), spot(3, 1))
        self.assertEqual((act, speeds), (("pull", (), ()), {"floor": STILL}))
        self.assertEqual(self.assert_pulled((), spot(3, 1)), (("pull", (), ()), {}))

    def test_a_pull_of_still(self):
        rows = world(box("a", 0, 0, (-1, 4)), box("b", 2, 0), FLOOR)
        act, speeds = self.assert_pulled(rows, STILL)
        self.assertEqual(act, ("pull", contacts(rows), (NOUGHT,) * 3))
        self.assertEqual(speeds, speeds_of(rows))

    def test_early(self):
        for rows in [world(box("a", 0, 0, (1, 0)), box("b", 2, 0)), world(box("a", 0, 0, (0, -1)), FLOOR),
                     world(box("a", 0, 0, (1, 0)), box("b", 2, 0), box("c", 0, 2, (0, 1)))]:
            for kick in [STILL, DOWN, spot(-99, 99)]:
                with self.assertRaises(Early) as caught:
                    pulling(rows, kick)
                self.assertEqual(caught.exception.time, (0, 1))
                given = contacts(rows)
                self.assertIs(pull_held(rows, kick, ("pull", given, (NOUGHT,) * len(given))), False)

    def test_many(self):
        dice = random.Random(84)
        count = 0
        for _ in range(200):
            rows = some_heap(dice, dice.randint(2, 7))
            if dice.randint(0, 1):
                rows = with_speeds(rows, {})
            if not closing(rows, contacts(rows)):
                self.assert_pulled(rows, dice.choice([DOWN, some_spot(dice, 5, 3)]))
                count += 1
        self.assertGreater(count, 60)

    def test_still_bodies_stay_still_just_where_they_stand(self):
        dice = random.Random(85)
        words = set()
        for _ in range(60):
            rows = with_speeds(some_heap(dice, dice.randint(2, 7)), {})
            kick = some_spot(dice, 2, 1)
            word = standing(rows, kick)[0]
            words.add(word)
            behind = pulled(rows, kick, pulling(rows, kick))
            self.assertEqual(behind == rows, word == "stands")
        self.assertEqual(len(words), 2)


class PullHeld(Held, unittest.TestCase):

    rows = world(box("a", 0, 0), box("b", 2, 0), box("c", 1, 2, mass=2), FLOOR)
    given = (("a", "b", (1, 0)), ("a", "c", (0, 1)), ("a", "floor", (0, -1)), ("b", "c", (0, 1)),
             ("b", "floor", (0, -1)))

    def assert_pushes(self, good, *pushes):
        act = ("pull", self.given, tuple(told(push) for push in pushes))
        self.assert_held(good, pull_held, self.rows, DOWN, act)

    def test_other_right_pushes(self):
        self.assertEqual(contacts(self.rows), self.given)
        self.assert_pushes(True, 0, 1, 2, 1, 2)
        self.assert_pushes(True, 0, 0, 1, 2, 3)
        self.assert_pushes(True, 0, Fraction(1, 3), Fraction(4, 3), Fraction(5, 3), Fraction(8, 3))
        for pushes in [(0, 0, 1, 2, 3), (0, 2, 3, 0, 1)]:
            act = ("pull", self.given, tuple(told(push) for push in pushes))
            self.assertEqual(pulled(self.rows, DOWN, act), self.rows)

    def test_wrong_pushes(self):
        self.assert_pushes(False, 0, 0, 0, 0, 0)
        self.assert_pushes(False, 0, -1, 0, 3, 4)
        self.assert_pushes(False, 0, 1, 2, 1, 3)
        self.assert_pushes(False, 1, 1, 2, 1, 2)
        self.assert_pushes(False, 0, 1, 2, 1)
        self.assert_pushes(False, 0, 1, 2, 1, 2, 0)

    def test_pushes_that_hold_without_the_kick_alone(self):
        act = ("pull", self.given, (NOUGHT,) * 5)
        self.assert_held(True, pull_held, self.rows, STILL, act)
        self.assert_held(True, pull_held, self.rows, spot(0, 1), act)
        self.assert_held(False, pull_held, self.rows, DOWN, act)

    def test_another_kick(self):
        act = pulling(self.rows, DOWN)
        self.assert_held(True, pull_held, self.rows, DOWN, act)
        for kick in [STILL, spot(0, -2), spot(0, 1)]:
            self.assert_held(False, pull_held, self.rows, kick, act)
        self.assert_held(True, pull_held, self.rows, spot(3, -1), act)

    def test_where_a_contact_closes(self):
        rows = with_speeds(self.rows, {"c": (0, -1)})
        act = pulling(self.rows, DOWN)
        self.assert_held(False, pull_held, rows, DOWN, act)
        rows = world(box("a", 0, 0, (1, 0)), box("b", 2, 0))
        for push in [(1, 2), (1, 1), NOUGHT]:
            self.assert_held(False, pull_held, rows, STILL, ("pull", (("a", "b", (1, 0)),), (push,)))

    def test_other_contacts(self):
        word, given, pushes = pulling(self.rows, DOWN)
        for other in [given[::-1], given[1:], given + given[:1], (), (("b", "a", (-1, 0)),) + given[1:]]:
            self.assert_held(False, pull_held, self.rows, DOWN, (word, other, pushes[:len(other)]))
        self.assert_held(False, pull_held, self.rows, DOWN, (word, given[::-1], pushes[::-1]))
        self.assert_held(False, pull_held, self.rows, DOWN, (word, given[1:], pushes[1:]))

    def test_wrong_forms(self):
        right = pulling(self.rows, DOWN)
        for act in broken(right) + ANYTHING + [("meet",) + right[1:], right + (right[2],), ("meet",) + right[1:] + right[2:]]:
            self.assert_held(False, pull_held, self.rows, DOWN, act)
        word, given, pushes = right
        for push in [(0, 2), (False, 1), (0, True), 0, False, None, [0, 1]]:
            self.assert_held(False, pull_held, self.rows, DOWN, (word, given, (push,) + pushes[1:]))
        for way in [(True, 0), (1, False), (2, 0), [1, 0]]:
            self.assert_held(False, pull_held, self.rows, DOWN, (word, (("a", "b", way),) + given[1:], pushes))
        for thing in ANYTHING:
            self.assert_held(False, pull_held, self.rows, DOWN, (thing, given, pushes))
            self.assert_held(False, pull_held, self.rows, DOWN, (word, thing, pushes))
            self.assert_held(False, pull_held, self.rows, DOWN, (word, given, thing))
        self.assert_held(True, pull_held, (), DOWN, ("pull", (), ()))
        for act in [("pull", [], ()), ("pull", (), []), ("pull", ()), ["pull", (), ()]]:
            self.assert_held(False, pull_held, (), DOWN, act)


class Refusals(unittest.TestCase):

    def assert_over(self, rows, one, other):
        calls = [(meeting, WHOLE), (pulling, DOWN)]
        calls += [(meeting_held, WHOLE, act) for act in (None, (), ("meet", (), (), ()))]
        calls += [(pull_held, DOWN, act) for act in (None, (), ("pull", (), ()))]
        for call, *given in calls:
            with self.assertRaises(Over) as caught:
                call(rows, *given)
            self.assertEqual((caught.exception.one, caught.exception.other), (one, other))

    def test_over_ahead_of_all_else(self):
        self.assert_over(world(box("b", 0, 0), box("c", 1, 0)), "b", "c")
        self.assert_over(world(box("a", 0, 0, (1, 0)), box("b", 2, 0), box("c", 9, 9), box("d", 9, 9)), "c", "d")
        self.assert_over(world(wall("a", BOX), wall("b", BOX), box("z", 1, 0), box("c", 1, 1)), "a", "c")

    def test_two_walls_may_be(self):
        rows = world(wall("v", BOX), wall("w", BOX), box("c", 0, 2, (0, -1)))
        act = meeting(rows, NOUGHT)
        self.assertIs(meeting_held(rows, NOUGHT, act), True)
        rows = met(rows, NOUGHT, act)
        self.assertIs(pull_held(rows, DOWN, pulling(rows, DOWN)), True)


if __name__ == "__main__":
    unittest.main()
