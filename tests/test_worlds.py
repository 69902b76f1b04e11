"""Points 33, 35 and 36: a world's deeds, its story, and stories done again. Beats have a file of their own."""

import copy
import inspect
import random
import unittest

from helpers import (
    ANYTHING, BOX, DIAMOND, LETTERS, TRIANGLE, Refusing, box, broken, nested, some_room, some_spot, spot, world,
)
from restbodies import worlds as module
from restbodies.bodies import free, look_row, railed, wall
from restbodies.bounds import BODIES, DEEDS, MEETINGS
from restbodies.errors import (
    BadCount, BadPush, BadRow, BadSpan, BadState, BodyError, Crowded, Full, Long, NoBody, Nothing, Over, TooFine, Twice,
    Wrong,
)
from restbodies.spots import STILL
from restbodies.texts import state_text
from restbodies.worlds import World, deeds, replay, world_of

NOUGHT = (0, 1)
WHOLE = (1, 1)
DOWN = spot(0, -1)
LONGEST = 10 ** 400 - 1
LONG = 10 ** 400
FLOOR = wall("floor", ((-9, -1), (9, -1), (9, 0), (-9, 0)))
ROWS = world(box("b", 0, 0, (1, 2), mass=3), FLOOR, railed("r", TRIANGLE, rail=(1, -1), at=spot(0.5, 4)))
STATE = (DOWN, (1, 2), (7, 3), ROWS)


def world_with(*rows, **more):
    made = World(**more)
    for row in rows:
        made.add(row)
    return made


def full_story():
    made = world_with(box("a", 0, 0), FLOOR)
    while len(made) < DEEDS:
        made.turn()
    return made


class Interface(unittest.TestCase):

    def test_arguments(self):
        pull, give = "pull=((0, 1), (0, 1))", "give=(0, 1)"
        self.assertEqual(str(inspect.signature(World)), f"(*, {pull}, {give})")
        for name, arguments in [
            ("add", "(self, row)"), ("take", "(self, name)"), ("shove", "(self, name, push)"), ("turn", "(self)"),
            ("beat", "(self, span=(1, 1), *, most=24)"), ("back", "(self)"), ("story", "(self)"), ("state", "(self)"),
            ("start", "(self)"), ("__len__", "(self)"), ("__eq__", "(self, other)"), ("__str__", "(self)"),
        ]:
            self.assertIn(name, vars(World))
            self.assertEqual(str(inspect.signature(vars(World)[name])), arguments)
        for name, arguments in [("world_of", "(state)"), ("deeds", "(story)"), ("replay", "(state, deeds)")]:
            self.assertEqual(str(inspect.signature(getattr(module, name))), arguments)
        for name in ["World", "world_of", "deeds", "replay"]:
            self.assertEqual(getattr(module, name).__module__, "restbodies.worlds")


class Making(unittest.TestCase):

    def test_a_new_world(self):
        made = World()
        self.assertEqual(made.state(), (STILL, NOUGHT, NOUGHT, ()))
        self.assertEqual(made.start(), made.state())
        self.assertEqual((made.story(), len(made), bool(made)), ([], 0, False))

    def test_pull_and_give_by_their_names(self):
        for made in [World(pull=DOWN, give=(1, 2)), World(give=(1, 2), pull=DOWN)]:
            self.assertEqual(made.state(), (DOWN, (1, 2), NOUGHT, ()))
        self.assertEqual(World(give=WHOLE).state(), (STILL, WHOLE, NOUGHT, ()))
        self.assertEqual(World(pull=spot(3, -0.5)).start(), (spot(3, -0.5), NOUGHT, NOUGHT, ()))
        with self.assertRaises(TypeError):
            World(DOWN)

    def test_bad_state(self):
        for thing in ANYTHING + [(1, 2), 1, True, ((0, 1), (2, 2)), ((0, 1), (True, 1)), ((LONG, 1), (0, 1)), [1, 2]]:
            if thing != STILL:
                with self.assertRaises(BadState):
                    World(pull=thing)
        for thing in ANYTHING + [(-1, 2), (3, 2), (2, 4), (True, 1), (1, True), (1, LONG), 1, True, [1, 2], DOWN]:
            if thing != NOUGHT:
                with self.assertRaises(BadState):
                    World(give=thing)
        self.assertEqual(World(pull=((LONGEST, 1), (1, LONGEST))).state()[0], ((LONGEST, 1), (1, LONGEST)))
        with self.assertRaises(BadState):
            World(pull=DOWN, give=(2, 1))

    def test_world_of(self):
        rows = [ROWS[2], (FLOOR[0], list(FLOOR[1][2:] + FLOOR[1][:2])) + FLOOR[2:], ROWS[0]]
        kept = copy.deepcopy(rows)
        made = world_of(STATE[:3] + (rows,))
        self.assertEqual((made.state(), made.start(), made.story()), (STATE, STATE, []))
        self.assertEqual(rows, kept)
        self.assertEqual(len(made), 0)

    def test_world_of_refuses_as_look_state_does(self):
        for kind, thing in [
            (BadState, None), (BadState, STATE[:3]), (BadState, STATE[:3] + (7,)), (BadRow, STATE[:3] + ((7,),)),
            (Twice, STATE[:3] + (ROWS + ROWS,)), (Over, STATE[:3] + ([box("a", 0, 0), box("b", 1, 1)],)),
            (Full, STATE[:3] + ([box(name, 4 * at, 0) for at, name in enumerate(LETTERS + "m")],)),
        ]:
            with self.assertRaises(BodyError) as caught:
                world_of(thing)
            self.assertIs(type(caught.exception), kind)


class Deeds(Refusing, unittest.TestCase):

    def assert_entry(self, made, entry, due, rows):
        """The entry is told and is the story's last one; the rows are as told, all else stays."""
        self.assertEqual(entry, due)
        self.assertIs(type(entry), tuple)
        self.assertEqual(made.story()[-1], due)
        self.assertEqual(made.state()[3], rows)
        self.assertIs(type(made.state()[3]), tuple)

    def test_add(self):
        made = World(pull=DOWN)
        kept = [row for row in ROWS]
        self.assert_entry(made, made.add(kept[2]), ("add", kept[2]), (kept[2],))
        self.assert_entry(made, made.add(kept[0]), ("add", kept[0]), (kept[0], kept[2]))
        corners = [list(corner) for corner in FLOOR[1][1:] + FLOOR[1][:1]]
        self.assert_entry(made, made.add((FLOOR[0], corners) + FLOOR[2:]), ("add", FLOOR), tuple(kept))
        self.assertEqual(made.state()[:3], (DOWN, NOUGHT, NOUGHT))
        self.assertEqual(made.start(), (DOWN, NOUGHT, NOUGHT, ()))
        self.assertEqual(len(made), 3)

    def test_add_refuses_wrong_rows(self):
        made = world_with(*ROWS)
        for thing in ANYTHING:
            self.assertEqual(self.assert_refused(BadRow, made, made.add, thing), {"part": "form"})
        for row in broken(box("z", 50, 50, (1, 2))):
            try:
                look_row(row)
            except BadRow as wrong:
                self.assertEqual(self.assert_refused(BadRow, made, made.add, row), {"part": wrong.part})
            else:
                made.add(row)
                made.back()

    def test_add_refuses_twice_full_over(self):
        made = world_with(*[box(name, 4 * at, 0) for at, name in enumerate(LETTERS[:-1])])
        self.assertEqual(self.assert_refused(Twice, made, made.add, box("c", 0, 50)), {"name": "c"})
        self.assertEqual(self.assert_refused(Over, made, made.add, box("z", 3, 0)), {"one": "b", "other": "z"})
        made.add(wall("l", BOX, at=spot(0, 50)))
        self.assertEqual(len(made.state()[3]), BODIES)
        self.assert_refused(Full, made, made.add, box("z", 0, 90))
        self.assert_refused(Full, made, made.add, box("z", 0, 0))
        self.assertEqual(self.assert_refused(Twice, made, made.add, box("c", 0, 0)), {"name": "c"})
        self.assertEqual(self.assert_refused(BadRow, made, made.add, ("c",)), {"part": "form"})
        self.assertEqual(self.assert_refused(BadRow, made, made.add, box("c", 0, 0)[:2] + (-1, None, STILL, STILL)),
                         {"part": "mass"})

    def test_over_with_the_first_by_names(self):
        made = world_with(box("m", 0, 0), box("k", 2, 0), wall("p", BOX, at=spot(0, 2)))
        wide = ((0, 0), (4, 0), (4, 4), (0, 4))
        for name, due in [("a", ("a", "k")), ("l", ("k", "l")), ("z", ("k", "z"))]:
            fields = self.assert_refused(Over, made, made.add, free(name, wide))
            self.assertEqual((fields["one"], fields["other"]), due)
        fields = self.assert_refused(Over, made, made.add, wall("q", BOX, at=spot(0, 3)))
        self.assertEqual(fields, {"one": "p", "other": "q"})
        made.add(wall("q", BOX, at=spot(0, 4)))

    def test_take(self):
        made = world_with(*ROWS)
        self.assert_entry(made, made.take("floor"), ("take", "floor"), (ROWS[0], ROWS[2]))
        self.assert_entry(made, made.take("b"), ("take", "b"), (ROWS[2],))
        self.assert_entry(made, made.take("r"), ("take", "r"), ())
        self.assert_refused(NoBody, made, made.take, "b")

    def test_take_refuses(self):
        made = world_with(*ROWS)
        for thing in ANYTHING + ["c", "B", "b ", ("b",), ["b"], ROWS[0], "floo", {"b": "b"}]:
            self.assert_refused(NoBody, made, made.take, thing)

    def test_shove(self):
        made = world_with(*ROWS)
        self.assert_entry(made, made.shove("b", spot(3, -1)), ("shove", "b", spot(3, -1)),
                          (ROWS[0][:5] + (((2, 1), (5, 3)),),) + ROWS[1:])
        rows = made.state()[3]
        self.assert_entry(made, made.shove("floor", spot(3, -1)), ("shove", "floor", spot(3, -1)), rows)
        self.assert_entry(made, made.shove("r", spot(1, -3)), ("shove", "r", spot(1, -3)),
                          rows[:2] + (rows[2][:5] + (spot(2, -2),),))
        self.assert_entry(made, made.shove("r", STILL), ("shove", "r", STILL), made.state()[3])

    def test_shove_refuses(self):
        made = world_with(*ROWS)
        for thing in ANYTHING + ["c", ("b",), ["b"]]:
            self.assert_refused(NoBody, made, made.shove, thing, STILL)
            self.assert_refused(NoBody, made, made.shove, thing, None)
        wrong = [thing for thing in ANYTHING if thing != STILL]
        wrong += [((1, 1), (2, 2)), ((True, 1), (1, 1)), ((1, 1), (1, True)), [(0, 1), (0, 1)], ((LONG, 1), (0, 1)),
                  ((0, 1), (1, LONG)), (1, 1), ((0, 1),), ((0, 1), (0, -1)), ((-LONG, 1), (0, 1))]
        for thing in wrong:
            for name in ["b", "floor", "r"]:
                self.assert_refused(BadPush, made, made.shove, name, thing)

    def test_shove_too_fine(self):
        made = world_with(*ROWS)
        self.assert_refused(TooFine, made, made.shove, "b", ((1, LONGEST), (0, 1)))
        self.assert_refused(TooFine, made, made.shove, "b", ((0, 1), (1, 4 * 10 ** 399 + 1)))
        self.assert_refused(TooFine, made, made.shove, "b", ((LONGEST - 1, 1), (0, 1)))
        made.shove("b", ((LONGEST - 5, 1), (0, 1)))
        made.shove("floor", ((1, LONGEST), (0, 1)))
        made.add(box("c", 50, 50, mass=1000))
        made.shove("c", ((LONGEST, 1), (0, 1)))
        self.assert_refused(TooFine, made, made.shove, "c", ((1, 10 ** 399 - 1), (0, 1)))
        made.add(box("d", 60, 60, (LONGEST, -LONGEST)))
        self.assert_refused(TooFine, made, made.shove, "d", spot(1, 0))
        self.assert_refused(TooFine, made, made.shove, "d", spot(0, -1))
        made.shove("d", spot(0, 1))
        made.shove("d", spot(-1, 0))

    def test_a_bound_that_is_the_speeds_own(self):
        made = world_with(box("a", 0, 0, (0, 0)))
        made.shove("a", ((LONGEST, 1), (1, LONGEST)))
        self.assertEqual(made.state()[3][0][5], ((LONGEST, 1), (1, LONGEST)))
        self.assert_refused(TooFine, made, made.shove, "a", ((1, 1), (0, 1)))

    def test_turn(self):
        made = world_with(*ROWS)
        made.shove("r", spot(1, -1))
        ahead = made.state()[3]
        self.assert_entry(made, made.turn(), ("turn",), (
            ahead[0][:5] + (spot(-1, -2),), FLOOR, ahead[2][:5] + (spot(-1, 1),)))
        self.assert_entry(made, made.turn(), ("turn",), ahead)
        made = World()
        self.assert_entry(made, made.turn(), ("turn",), ())

    def test_beat_refuses_spans_and_counts(self):
        made = world_with(*ROWS)
        wrong = [thing for thing in ANYTHING]
        wrong += [NOUGHT, (-1, 2), (2, 2), (True, 1), (1, True), 1, True, [1, 1], (LONG, 1), (1, LONG), (1, 0), (1, -1),
                  (-1, -1), "1", (1, 1, 1), (1,)]
        for span in wrong:
            self.assert_refused(BadSpan, made, made.beat, span)
            self.assert_refused(BadSpan, made, made.beat, span, most=None)
        for most in [thing for thing in ANYTHING if thing not in (0, 1)]:
            self.assert_refused(BadCount, made, made.beat, WHOLE, most=most)
        for most in [-1, MEETINGS + 1, True, False, (1, 1), "1", None, [1], 10 ** 900]:
            self.assert_refused(BadCount, made, made.beat, (1, 100), most=most)
        for most in [0, 1, MEETINGS]:
            made.beat((1, 100), most=most)

    def test_span_and_most_left_out(self):
        made = world_with(box("b", 0, 0, (1, 0)))
        self.assertEqual(made.beat()[:2], ("beat", WHOLE))
        self.assertEqual(made.beat((1, 2), most=0)[:2], ("beat", (1, 2)))
        self.assertEqual(made.state()[2:], ((3, 2), (box("b", 1.5, 0, (1, 0)),)))
        with self.assertRaises(TypeError):
            made.beat(WHOLE, 3)

    def test_long_ahead_of_all_else(self):
        made = full_story()
        for call, given in [
            (made.add, (box("c", 9, 9),)), (made.add, (None,)), (made.add, (FLOOR,)), (made.take, ("a",)),
            (made.take, (7,)), (made.shove, ("a", STILL)), (made.shove, (None, None)), (made.turn, ()), (made.beat, ()),
            (made.beat, (None,)), (made.beat, ((1, LONG),)),
        ]:
            self.assert_refused(Long, made, call, *given)
        self.assert_refused(Long, made, made.beat, None, most=-1)
        self.assertEqual(made.back(), ("turn",))
        made.take("a")
        self.assert_refused(Long, made, made.turn)

    def test_what_is_handed_in_stays_and_is_not_kept(self):
        corners = [[0, 0], [2, 0], [2, 2], [0, 2]]
        made = World()
        made.add(("a", corners, 1, None, STILL, STILL))
        corners[0][0] = 7
        self.assertEqual(made.state()[3][0][1], BOX)
        self.assertEqual(made.story()[0][1][1], BOX)


class Stories(Refusing, unittest.TestCase):

    def test_story_is_a_list_built_anew(self):
        made = world_with(*ROWS)
        told = made.story()
        self.assertIs(type(told), list)
        self.assertEqual(told, [("add", row) for row in ROWS])
        told.append(None)
        told[0] = None
        self.assertEqual(made.story(), [("add", row) for row in ROWS])

    def test_back(self):
        made = world_of(STATE)
        ahead = []
        for call, given in [(made.take, ("r",)), (made.add, (box("c", 5, 5),)), (made.shove, ("c", DOWN)),
                            (made.turn, ()), (made.beat, ()), (made.beat, ((1, 3),))]:
            ahead.append((made.state(), made.story(), call(*given)))
        while ahead:
            state, story, entry = ahead.pop()
            self.assertEqual(made.back(), entry)
            self.assertEqual((made.state(), made.story(), len(made)), (state, story, len(story)))
        self.assertEqual(made.start(), STATE)
        self.assert_refused(Nothing, made, made.back)
        self.assert_refused(Nothing, World(), World().back)

    def test_back_and_on(self):
        made = world_with(*ROWS)
        made.back()
        made.take("b")
        self.assertEqual(made.story(), [("add", ROWS[0]), ("add", FLOOR), ("take", "b")])
        self.assertEqual(made.state()[3], (FLOOR,))

    def test_len_and_truth(self):
        made = World()
        self.assertFalse(made)
        for count in range(1, 4):
            made.turn()
            self.assertEqual(len(made), count)
            self.assertTrue(made)
        self.assertFalse(world_of(STATE))

    def test_equality(self):
        one, other = world_of(STATE), world_with(*ROWS, pull=DOWN, give=(1, 2))
        self.assertFalse(one == other)
        self.assertTrue(one != other)
        self.assertTrue(world_of(STATE[:2] + (NOUGHT,) + STATE[3:]) == other)
        self.assertFalse(world_of(STATE[:2] + (NOUGHT,) + STATE[3:]) != other)
        other.turn()
        self.assertTrue(one != other)
        self.assertTrue(World() == World())
        self.assertFalse(World() == World(give=WHOLE))
        for thing in [None, 0, STATE, one.state(), str(one), [], {}, object()]:
            self.assertFalse(one == thing)
            self.assertFalse(thing == one)
            self.assertTrue(one != thing)

    def test_text(self):
        made = world_of(STATE)
        self.assertEqual(str(made), state_text(STATE))
        self.assertEqual(str(World()), "world 0 0 0 0")

    def test_the_start_stays(self):
        made = world_of(STATE)
        made.beat()
        made.take("b")
        self.assertEqual(made.start(), STATE)
        self.assertNotEqual(made.state(), STATE)


class Replays(unittest.TestCase):

    def assert_refused(self, kind, state, entries, **fields):
        kept = copy.deepcopy((state, entries))
        with self.assertRaises(BodyError) as caught:
            replay(state, entries)
        self.assertIs(type(caught.exception), kind)
        self.assertEqual(vars(caught.exception), fields)
        self.assertEqual((state, entries), kept)

    def story_world(self):
        made = world_of(STATE)
        made.beat((1, 2))
        made.add(box("c", 5, 5, (0, -3)))
        made.turn()
        made.shove("c", spot(1, 1))
        made.beat()
        made.take("b")
        return made

    def test_deeds(self):
        made = self.story_world()
        story = made.story()
        told = deeds(story)
        self.assertIs(type(told), list)
        self.assertEqual(told, [("beat", (1, 2)), ("add", box("c", 5, 5, (0, -3))), ("turn",), ("shove", "c", spot(1, 1)),
                                ("beat", WHOLE), ("take", "b")])
        self.assertEqual(made.story(), story)
        self.assertEqual(deeds([]), [])

    def test_replay(self):
        made = self.story_world()
        again = replay(made.start(), deeds(made.story()))
        self.assertIs(type(again), World)
        self.assertEqual((again.state(), again.story(), again.start()), (made.state(), made.story(), made.start()))
        again.back()
        self.assertEqual(replay(STATE, []).state(), STATE)
        rows = [ROWS[2], ROWS[1], ROWS[0]]
        self.assertEqual(replay(STATE[:3] + (rows,), []).start(), STATE)

    def test_many(self):
        dice = random.Random(100)
        for _ in range(6):
            made = world_of((some_spot(dice, 2, 2), (1, 2), NOUGHT, some_room(dice, 4)))
            for _ in range(4):
                dice.choice([made.turn, lambda: made.shove("a", some_spot(dice)), lambda: made.beat((1, 2))])()
            again = replay(made.start(), deeds(made.story()))
            self.assertEqual((again, again.story()), (made, made.story()))

    def test_look_state_refuses_first(self):
        self.assert_refused(BadState, None, [None])
        self.assert_refused(Over, STATE[:3] + ((box("a", 0, 0), box("b", 0, 0)),), [7], one="a", other="b")

    def test_wrong_forms(self):
        beat = self.story_world().story()[0]
        wrong = [beat, ("beat", WHOLE, ()), ("beat",), ("turn", None), ("turn", "turn"), ("add",), ("add", FLOOR, FLOOR),
                 ("take",), ("take", "a", "a"), ("shove", "a"), ("shove", "a", STILL, STILL), ("push", "a", STILL), ("Turn",),
                 ["turn"], "turn", ("turn ",), (("turn",),), (["turn"],), ({},), (None,), ("add", ), ()]
        for entry in wrong + ANYTHING:
            self.assert_refused(Wrong, STATE, [entry], deed=0, act=None)
            self.assert_refused(Wrong, STATE, [("turn",), ("take", "b"), entry, ("take", "b")], deed=2, act=None)

    def test_at_its_turn(self):
        self.assert_refused(NoBody, STATE, [("take", "zz"), None])
        self.assert_refused(Wrong, STATE, [("take", "b"), None, ("take", "b")], deed=1, act=None)
        self.assert_refused(NoBody, STATE, [("take", "b"), ("take", "b"), None])

    def test_the_deeds_refusals(self):
        lapped = box("z", 0, 0)
        for kind, entry, fields in [
            (BadRow, ("add", None), {"part": "form"}), (Twice, ("add", ROWS[0]), {"name": "b"}),
            (Over, ("add", lapped), {"one": "b", "other": "z"}), (NoBody, ("take", nested(1, 11)), {}),
            (NoBody, ("shove", None, STILL), {}), (BadPush, ("shove", "b", None), {}),
            (TooFine, ("shove", "b", ((1, LONGEST), (0, 1))), {}), (BadSpan, ("beat", None), {}),
            (BadSpan, ("beat", NOUGHT), {}),
        ]:
            self.assert_refused(kind, STATE, [("turn",), entry], **fields)
        many = [("add", box(name, 50 + 4 * at, 0)) for at, name in enumerate("cdefghijklmn")]
        self.assert_refused(Full, STATE, many)

    def test_long(self):
        turns = [("turn",)] * DEEDS
        self.assertEqual(len(replay(STATE, turns)), DEEDS)
        self.assert_refused(Long, STATE, turns + [("turn",)])
        self.assert_refused(Long, STATE, turns + [("take", None)])
        self.assert_refused(Wrong, STATE, turns + [("turn", 1)], deed=DEEDS, act=None)

    def test_beats_have_as_many_meetings_as_may_be(self):
        rows = world(wall("v", BOX, at=spot(-2, 0)), wall("w", BOX, at=spot(3, 0)), box("b", 0, 0, (24, 0)))
        state = (STILL, WHOLE, NOUGHT, rows)
        self.assertEqual([act[0] for act in replay(state, [("beat", WHOLE)]).story()[0][2]].count("meet"), 23)
        self.assert_refused(Crowded, state, [("beat", (2, 1))], clock=(25, 24))

    def test_rows_in_any_form(self):
        row = ("d", [list(corner) for corner in DIAMOND[2:] + DIAMOND[:2]], 1, None, spot(50, 0), STILL)
        self.assertEqual(replay(STATE, [("add", row)]).story(), [("add", look_row(row))])


if __name__ == "__main__":
    unittest.main()
