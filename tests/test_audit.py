"""Point 37."""

import copy
import inspect
import random
import unittest
from fractions import Fraction

from helpers import (
    ANYTHING, BOX, LETTERS, acts_due, box, broken, nested, some_room, some_spot, spot, told, wedges, with_speeds, world,
)
from restbodies import audit as module
from restbodies.audit import audit
from restbodies.bodies import look_row, wall
from restbodies.bounds import BODIES, DEEDS, MEETINGS
from restbodies.errors import BadRow, BadState, BodyError, Crowded, Full, Over, TooFine, Twice, Wrong
from restbodies.flights import flight_held
from restbodies.meetings import met, pulled
from restbodies.rows import moved
from restbodies.spots import STILL
from restbodies.worlds import World, world_of

NOUGHT = (0, 1)
WHOLE = (1, 1)
HALF = (1, 2)
DOWN = spot(0, -1)
LONG = 10 ** 900 + 7
FLOOR = wall("floor", ((-9, -1), (9, -1), (9, 0), (-9, 0)))
# A ball between two walls that meets each of them each three units of time, and one more that stays.
STATE = (STILL, WHOLE, (5, 1), world(wall("v", BOX, at=spot(-2, 0)), wall("w", BOX, at=spot(8, 0)),
                                     box("b", 3, 0, (2, 0)), box("c", 0, 50)))


def other_papers(rows, span, papers):
    """Papers of the same flight, with other ways wherever one is found."""
    for at, (low, high, old) in enumerate(papers):
        for way in [(0, 1), (0, -1), (1, 0), (-1, 0), (100, 1), (-1, 100), (-100, 1), (1, 100), (-1, -100)]:
            changed = papers[:at] + ((low, high, way),) + papers[at + 1:]
            if way != old and flight_held(rows, span, changed):
                papers = changed
                break
    return papers


def is_row(thing):
    """Whether a thing is a row just as look_row tells it."""
    try:
        return look_row(thing) == thing
    except BadRow:
        return False


class Auditing(unittest.TestCase):

    def assert_state(self, state, story, due):
        kept = copy.deepcopy((state, story))
        for _ in range(2):
            self.assertEqual(audit(state, story), due)
        self.assertEqual((state, story), kept)

    def assert_wrong(self, state, story, deed, act):
        kept = copy.deepcopy((state, story))
        with self.subTest(repr(story)[:200]):
            with self.assertRaises(BodyError) as caught:
                audit(state, story)
            self.assertIs(type(caught.exception), Wrong)
            self.assertEqual((caught.exception.deed, caught.exception.act), (deed, act))
            self.assertEqual((state, story), kept)


class Right(Auditing):

    def test_arguments(self):
        self.assertEqual(str(inspect.signature(module.audit)), "(state, story)")
        self.assertEqual(module.audit.__module__, "restbodies.audit")

    def test_no_entries(self):
        self.assert_state(STATE, [], STATE)
        rows = [list(STATE[3])[at] for at in (2, 0, 3, 1)]
        self.assert_state(STATE[:3] + (rows,), [], STATE)

    def test_each_deed(self):
        made = world_of(STATE)
        made.add(box("d", 0, 9, (0, 1)))
        made.beat((10, 1))
        made.shove("d", spot(3, HALF[0] / 2))
        made.turn()
        made.shove("w", DOWN)
        made.beat((1, 3))
        made.take("v")
        made.beat()
        self.assert_state(made.start(), made.story(), made.state())

    def test_worlds_own_stories(self):
        dice = random.Random(140)
        for _ in range(12):
            made = world_of((some_spot(dice, 2, 2), told(Fraction(dice.randint(0, 4), 4)), NOUGHT, some_room(dice, 6)))
            for _ in range(3):
                made.shove("a", some_spot(dice))
                try:
                    made.beat(told(Fraction(1, dice.randint(1, 3))))
                except (Crowded, TooFine):
                    made.turn()
            self.assert_state(made.start(), made.story(), made.state())

    def test_wedges(self):
        dice = random.Random(141)
        rows = with_speeds(wedges(), {name: (dice.randint(-3, 3), dice.randint(-3, 3)) for name in LETTERS})
        made = world_of((spot(1, -2), HALF, NOUGHT, rows))
        made.beat((1, 4))
        made.beat((1, 4))
        self.assertEqual(made.story()[0][2][0][0], "meet")
        self.assert_state(made.start(), made.story(), made.state())

    def test_other_right_ways(self):
        made = world_of(STATE)
        made.beat((7, 1))
        word, span, acts = made.story()[0]
        rows = made.start()[3]
        changed = []
        for act in acts:
            if act[0] == "fly":
                changed.append(("fly", act[1], other_papers(rows, act[1], act[2])))
                rows = tuple(moved(row, act[1]) for row in rows)
            else:
                changed.append(act)
                rows = met(rows, WHOLE, act) if act[0] == "meet" else pulled(rows, STILL, act)
        self.assertTrue(all(one != other for one, other in zip(changed, acts) if one[0] == "fly"))
        self.assert_state(made.start(), [(word, span, tuple(changed))], made.state())

    def test_other_right_pushes(self):
        rows = world(box("a", 0, 0), box("b", 2, 0), box("c", 1, 2, mass=2), FLOOR)
        made = world_of((DOWN, HALF, NOUGHT, rows))
        made.beat()
        pull, fly = made.story()[0][2]
        for share in [Fraction(0), Fraction(1, 7), Fraction(2)]:
            pushes = tuple(told(push) for push in [0, share, 1 + share, 2 - share, 3 - share])
            self.assert_state(made.start(), [("beat", WHOLE, (("pull", pull[1], pushes), fly))], made.state())
        pushes = tuple(told(push) for push in [0, -1, 0, 3, 4])
        self.assert_wrong(made.start(), [("beat", WHOLE, (("pull", pull[1], pushes), fly))], 0, 0)

    def test_other_right_pushes_in_a_meeting(self):
        rows = world(box("a", 0, 0), box("b", 2, 0), box("c", 1, 2, (0, -2), mass=2), FLOOR)
        made = world_of((STILL, NOUGHT, NOUGHT, rows))
        made.beat()
        meet, pull, fly = made.story()[0][2]
        for share in [Fraction(0), Fraction(2, 7), Fraction(4)]:
            pushes = tuple(told(push) for push in [0, share, share, 4 - share, 4 - share])
            acts = ((meet[0], meet[1], pushes, meet[3]), pull, fly)
            self.assert_state(made.start(), [("beat", WHOLE, acts)], made.state())

    def test_no_bound_on_entries(self):
        story = [("turn",)] * (2 * DEEDS + 1)
        rows = tuple(row[:5] + (spot(-2, 0),) if row[0] == "b" else row for row in STATE[3])
        self.assert_state(STATE, story, STATE[:3] + (rows,))

    def test_no_bound_on_meetings(self):
        span = (3 * MEETINGS + 30, 1)
        acts, state = acts_due(STATE, span)
        self.assertGreater(len(acts), 2 * MEETINGS + 2)
        self.assert_state(STATE, [("beat", span, acts)], state)
        self.assertRaises(Crowded, world_of(STATE).beat, span)

    def test_no_bound_on_figures(self):
        slow = spot(Fraction(1, LONG), Fraction(-1, LONG + 2))
        self.assert_state(STATE, [("shove", "c", slow)],
                          STATE[:3] + (STATE[3][:1] + (box("c", 0, 50)[:5] + (slow,),) + STATE[3][2:],))
        span = told(Fraction(1, LONG))
        acts, state = acts_due(STATE, span)
        self.assert_state(STATE, [("beat", span, acts)], state)
        self.assertRaises(TooFine, world_of(STATE[:2] + ((1, 10 ** 399 + 1),) + STATE[3:]).beat, (1, 10 ** 399 + 3))
        moving = world_of(STATE)
        moving.shove("c", spot(Fraction(1, 10 ** 300), 0))
        span = (1, 10 ** 300 + 1)
        acts, state = acts_due(moving.state(), span)
        self.assertRaises(TooFine, moving.beat, span)
        self.assert_state(STATE, moving.story() + [("beat", span, acts)], state)

    def test_numbers_longer_than_python_writes(self):
        dice = random.Random(142)
        rows = []
        for at, name in enumerate(LETTERS[:9]):
            x, y = [Fraction(dice.randrange(10 ** 395), dice.randrange(10 ** 395, 10 ** 396)) for _ in range(2)]
            rows.append(box(name, 2 * (at // 3), 2 * (at % 3), (x - 10 * (at // 3), y - 10 * (at % 3))))
        state = (STILL, HALF, NOUGHT, tuple(rows))
        acts, behind = acts_due(state, (1, 1000))
        self.assertTrue(max(push[1] for push in acts[0][2]) > 10 ** 4300)
        self.assertTrue(audit(state, [("beat", (1, 1000), acts)]) == behind)


class WrongDeeds(Auditing):

    def test_look_state_refuses_first(self):
        for kind, state in [
            (BadState, None), (BadState, STATE[:3]), (BadState, ((1, 2),) + STATE[1:]), (BadRow, STATE[:3] + ([None],)),
            (Twice, STATE[:3] + (STATE[3] + STATE[3],)), (Over, STATE[:3] + (STATE[3] + (box("a", 3, 0),),)),
            (Full, STATE[:3] + ([box(name, 4 * at, 0) for at, name in enumerate(LETTERS + "m")],)),
        ]:
            for story in [[], None, [None]]:
                with self.assertRaises(BodyError) as caught:
                    audit(state, story)
                self.assertIs(type(caught.exception), kind)

    def test_no_list(self):
        for story in [thing for thing in ANYTHING if not isinstance(thing, list)] + [(), (("turn",),), {0: ("turn",)}]:
            self.assert_wrong(STATE, story, 0, None)

    def test_forms(self):
        wrong = [("beat", WHOLE), ("beat",), ("beat", WHOLE, (), ()), ("turn", None), ("add",), ("add", FLOOR, FLOOR), ("take",),
                 ("take", "b", "b"), ("shove", "b"), ("shove", "b", STILL, STILL), ["turn"], "turn", ("Turn",), (("turn",),),
                 (["turn"],), ({},), (), (None,), ("meet", (), (), ()), ("back",)]
        for entry in wrong + ANYTHING:
            self.assert_wrong(STATE, [entry], 0, None)
            self.assert_wrong(STATE, [("turn",), ("take", "c"), entry, None], 2, None)
        for story in [thing for thing in ANYTHING if isinstance(thing, list) and thing]:
            self.assert_wrong(STATE, story, 0, None)

    def test_add(self):
        row = box("d", 0, 9)
        self.assert_state(STATE, [("add", row)], STATE[:3] + (world(*STATE[3], row),))
        wrong = broken(row) + [(row[0], row[1][1:] + row[1][:1]) + row[2:], (row[0], list(row[1])) + row[2:], None,
                               (row[0], tuple(list(corner) for corner in row[1])) + row[2:], row[:5] + (((LONG, 1), (0, 1)),),
                               row[:4] + (((0, 1), (1, LONG)), STILL), row[:2] + (-1,) + row[3:], row[:2] + (0, None, STILL, DOWN)]
        for thing in wrong:
            if not is_row(thing):
                self.assert_wrong(STATE, [("turn",), ("add", thing)], 1, None)

    def test_add_twice_over_full(self):
        self.assert_wrong(STATE, [("add", box("b", 0, 90))], 0, None)
        self.assert_wrong(STATE, [("add", box("z", 3, 1))], 0, None)
        self.assert_wrong(STATE, [("add", wall("z", BOX, at=spot(8, 1)))], 0, None)
        many = [("add", box(name, 0, 100 + 3 * at)) for at, name in enumerate("defghijklmnop")]
        self.assert_wrong(STATE, many, BODIES - 4, None)
        self.assertEqual(len(audit(STATE, many[:BODIES - 4])[3]), BODIES)

    def test_take_and_shove(self):
        for name in ["x", "B", None, 7, True, ("b",), ["b"], nested("b", 10), {"b": "b"}]:
            self.assert_wrong(STATE, [("take", name)], 0, None)
            self.assert_wrong(STATE, [("shove", name, STILL)], 0, None)
        self.assert_wrong(STATE, [("take", "b"), ("take", "b")], 1, None)
        self.assert_wrong(STATE, [("take", "b"), ("shove", "b", STILL)], 1, None)
        for push in [thing for thing in ANYTHING if thing != STILL and thing != ((LONG, 1), (1, LONG))]:
            if not (isinstance(push, tuple) and len(push) == 2 and isinstance(push[0], tuple)):
                self.assert_wrong(STATE, [("turn",), ("turn",), ("shove", "b", push)], 2, None)
        for push in [((2, 2), (0, 1)), ((True, 1), (0, 1)), ((1, True), (0, 1)), [(0, 1), (0, 1)], ((0, 1), (0, -1))]:
            self.assert_wrong(STATE, [("shove", "b", push)], 0, None)


class WrongBeats(Auditing):

    def setUp(self):
        made = world_of(STATE)
        made.turn()
        made.beat((3, 2))
        made.beat((7, 1))
        made.take("v")
        self.story = made.story()
        self.acts = self.story[2][2]
        self.assertEqual([act[0] for act in self.acts], ["meet", "pull", "fly", "meet", "fly", "meet", "fly"])
        self.assert_state(STATE, self.story, made.state())

    def assert_acts(self, acts, act, span=(7, 1)):
        story = self.story[:2] + [("beat", span, acts)] + self.story[3:]
        self.assert_wrong(STATE, story, 2, act)

    def test_span(self):
        for span in [NOUGHT, (-7, 1), (14, 2), 7, (7, True), (7, -1), [7, 1], None, True, "7", (7,), (7, 1, 1), (-7, -1)]:
            self.assert_acts(self.acts, None, span)
            self.assert_acts((), None, span)

    def test_acts_that_are_no_tuple(self):
        for acts in [list(self.acts), None, 7, "fly", {}, [], dict(enumerate(self.acts)), True]:
            self.assert_acts(acts, None)
            self.assert_acts(acts, None, NOUGHT)

    def test_acts_that_end_too_early(self):
        for count in range(len(self.acts)):
            self.assert_acts(self.acts[:count], count)

    def test_acts_behind_the_last(self):
        for act in self.acts + (None, (), ("turn",), ("fly", NOUGHT, ())):
            self.assert_acts(self.acts + (act,), len(self.acts))
            self.assert_acts(self.acts + (act, None), len(self.acts))

    def test_one_act_left_out(self):
        for at in range(len(self.acts) - 1):
            self.assert_acts(self.acts[:at] + self.acts[at + 1:], at)

    def test_one_act_twice(self):
        for at, act in enumerate(self.acts):
            self.assert_acts(self.acts[:at] + (act,) + self.acts[at:], at + 1)

    def test_forms_of_acts(self):
        for at, act in enumerate(self.acts):
            for other in broken(act) + [None, 7, ("meet",), ("pull",), ("fly",), nested(1, 9)]:
                self.assert_acts(self.acts[:at] + (other,) + self.acts[at + 1:], at)

    def test_no_meeting_where_a_contact_closes(self):
        self.assert_acts(self.acts[1:], 0)
        self.assert_acts((self.acts[1],) + self.acts, 0)

    def test_a_meeting_where_none_closes(self):
        meet = self.acts[0]
        self.assert_wrong(STATE, [("beat", WHOLE, (meet,) + acts_due(STATE, WHOLE)[0])], 0, 0)
        self.assert_acts((meet, meet) + self.acts[1:], 1)

    def test_wrong_pushes_in_a_meeting(self):
        word, given, pushes, more = self.acts[0]
        for wrong in [((1, 1),), (NOUGHT,), ((-4, 1),), ((4, 1),), pushes + pushes, ()]:
            if wrong != pushes:
                self.assert_acts(((word, given, wrong, more),) + self.acts[1:], 0)
        self.assert_acts(((word, given, pushes, ((1, 1),)),) + self.acts[1:], 0)
        word, given, pushes, more = self.acts[3]
        self.assert_acts(self.acts[:3] + ((word, given, ((1, 1),), more),) + self.acts[4:], 3)
        self.assert_acts(self.acts[:3] + (self.acts[0],) + self.acts[4:], 3)

    def test_wrong_pull(self):
        rows = world(box("a", 0, 0, mass=2), FLOOR)
        state = (DOWN, NOUGHT, NOUGHT, rows)
        given = (("a", "floor", (0, -1)),)
        fly = ("fly", (3, 1), (("a", "floor", (0, -1)),))
        self.assert_state(state, [("beat", (3, 1), (("pull", given, ((6, 1),)), fly))], state[:2] + ((3, 1), rows))
        for pushes in [((2, 1),), (NOUGHT,), ((7, 1),), ((-6, 1),)]:
            self.assert_wrong(state, [("beat", (3, 1), (("pull", given, pushes), fly))], 0, 0)
        self.assert_wrong(state, [("beat", (3, 1), (("pull", (), ()), fly))], 0, 0)
        self.assert_wrong(state, [("beat", (3, 1), (fly,))], 0, 0)

    def test_a_flight_of_a_wrong_span(self):
        word, span, papers = self.acts[2]
        for wrong in [NOUGHT, (-1, 1), (6, 2), 3, (3, True), None, "3", [3, 1]]:
            self.assert_acts(self.acts[:2] + ((word, wrong, papers),) + self.acts[3:], 2)

    def test_a_flight_that_passes_the_span(self):
        self.assertEqual([act[1] for act in self.acts if act[0] == "fly"], [(3, 1), (3, 1), (1, 1)])
        word, span, papers = self.acts[6]
        self.assert_acts(self.acts[:6] + ((word, (3, 2), papers),), 6)
        self.assert_acts(self.acts, 6, (13, 2))
        self.assert_acts(self.acts, 4, (5, 1))
        self.assert_acts(self.acts[:5], 4, (5, 1))

    def test_a_flight_that_ends_the_beat_early(self):
        word, span, papers = self.acts[6]
        self.assert_acts(self.acts[:6] + ((word, HALF, papers),), 7)
        self.assert_acts(self.acts, 7, (8, 1))
        self.assert_acts(self.acts, 5, (6, 1))
        self.assert_acts(self.acts[:5], 5, (8, 1))

    def test_a_flight_through_a_meeting(self):
        word, span, papers = self.acts[2]
        self.assert_acts(self.acts[:2] + ((word, (4, 1), papers),) + self.acts[3:], 2)
        self.assert_acts(self.acts[:2] + ((word, (7, 1), papers),), 2)

    def test_a_flight_that_ends_ahead_of_a_meeting(self):
        word, span, papers = self.acts[2]
        self.assert_acts(self.acts[:2] + ((word, (2, 1), papers),) + self.acts[3:], 3)
        self.assert_acts(self.acts[:2] + ((word, (2, 1), papers), (word, (1, 1), papers)) + self.acts[3:], 3)
        self.assert_acts(self.acts[:2] + ((word, (2, 1), papers),), 3)

    def test_two_flights_without_a_meeting(self):
        rows = (box("a", 0, 0), box("b", 9, 9))
        state = (STILL, NOUGHT, NOUGHT, rows)
        papers = (("a", "b", (1, 0)),)
        pull = ("pull", (), ())
        self.assert_state(state, [("beat", (2, 1), (pull, ("fly", (2, 1), papers)))], state[:2] + ((2, 1), rows))
        self.assert_wrong(state, [("beat", (2, 1), (pull, ("fly", WHOLE, papers), ("fly", WHOLE, papers)))], 0, 2)
        self.assert_wrong(state, [("beat", (2, 1), (pull, ("fly", WHOLE, papers)))], 0, 2)
        self.assert_wrong(state, [("beat", (2, 1), (pull, pull, ("fly", (2, 1), papers)))], 0, 1)
        self.assert_wrong(state, [("beat", (2, 1), (pull, ("fly", (2, 1), papers), pull))], 0, 2)

    def test_wrong_papers(self):
        word, span, papers = self.acts[2]
        for wrong in [papers[1:], papers[::-1], papers + papers[:1], (), (("b", "c", (0, -1)),) + papers[1:],
                      (("b", "c", (0, 2)),) + papers[1:], (("c", "b", (0, -1)),) + papers[1:]]:
            self.assert_acts(self.acts[:2] + ((word, span, wrong),) + self.acts[3:], 2)

    def test_a_meeting_behind_the_last_flight(self):
        made = world_of(STATE)
        made.beat((3, 2))
        meet = world_of(made.state()).beat()[2][0]
        word, span, acts = made.story()[0]
        self.assertEqual(meet[0], "meet")
        self.assert_wrong(STATE, [(word, span, acts + (meet,))], 0, 2)

    def test_a_story_of_another_state(self):
        self.assert_wrong((STILL, HALF) + STATE[2:], self.story, 2, 3)
        self.assert_wrong((DOWN,) + STATE[1:], self.story, 2, 0)
        self.assert_wrong(STATE[:3] + ((),), self.story, 1, 1)
        state = world_of(STATE[:2] + ((9, 1),) + STATE[3:]).state()
        self.assertEqual(audit(state, self.story)[2], (35, 2))

    def test_the_first_fault_comes(self):
        self.assert_wrong(STATE, self.story[:2] + [None] + self.story[3:] + [None], 2, None)
        acts = self.acts[:3] + (None, None)
        self.assert_acts(acts, 3)
        story = self.story + [("beat", WHOLE, (None,)), ("take", "x")]
        self.assert_wrong(STATE, story, 4, 0)


class Empty(Auditing):

    def test_beats_without_bodies(self):
        made = World(pull=DOWN)
        made.beat()
        made.beat((1, 7))
        self.assert_state(made.start(), made.story(), made.state())
        self.assert_wrong(made.start(), [("beat", WHOLE, ())], 0, 0)
        self.assert_wrong(made.start(), [("beat", WHOLE, (("pull", (), ()),))], 0, 1)
        self.assert_wrong(made.start(), [("beat", WHOLE, (("fly", WHOLE, ()),))], 0, 0)
        self.assert_wrong(made.start(), [("beat", WHOLE, (("meet", (), (), ()), ("pull", (), ()), ("fly", WHOLE, ())))], 0, 0)
        self.assert_wrong(made.start(), [("beat", WHOLE, (("pull", (), ()), ("fly", WHOLE, [])))], 0, 1)


if __name__ == "__main__":
    unittest.main()
