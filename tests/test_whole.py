"""Points 1 and 2, and 43, 44 and 45: what holds of whole worlds, whatever is done to them."""

import random
import unittest
from fractions import Fraction

from helpers import (
    BOX, DIAMOND, LETTERS, SHAPES, are_over, box, corners_of, gap_of, rough_ways, some_heap, some_room, some_share,
    some_spot, spot, told, values, with_speeds, world,
)
from restbodies.audit import audit
from restbodies.bodies import free, railed, wall
from restbodies.contacts import parting
from restbodies.errors import BodyError, Crowded, TooFine
from restbodies.meetings import met, pulled
from restbodies.pushes import pushed
from restbodies.rows import find_row, moved
from restbodies.spots import STILL
from restbodies.standing import standing
from restbodies.texts import read_state, state_text
from restbodies.worlds import deeds, replay, world_of

NOUGHT = (0, 1)
WHOLE = (1, 1)
GIVES = (NOUGHT, (1, 3), WHOLE)
SPAN = Fraction(3, 4)


def some_state(dice, count=6, pull=True):
    """A room with bodies of each kind that go."""
    rows = some_room(dice, count)
    return (some_spot(dice, 3, 2) if pull else STILL, dice.choice(GIVES), some_clock(dice), rows)


def some_clock(dice):
    return (dice.randint(0, 5), 1)


def some_swarm(dice, count=6, pull=True):
    """Free bodies alone, that go towards one another."""
    rows = []
    while len(rows) < count:
        x, y = dice.randint(-9, 9), dice.randint(-9, 9)
        row = box(LETTERS[len(rows)], x, y, (dice.randint(-2, 2) - x, dice.randint(-2, 2) - y), dice.choice(SHAPES),
                  mass=dice.randint(1, 4))
        if not any(are_over(row, other) for other in rows):
            rows.append(row)
    return (some_spot(dice, 3, 2) if pull else STILL, dice.choice(GIVES), some_clock(dice), tuple(rows))


def states(seed, number=10, make=some_state, **more):
    dice = random.Random(seed)
    return [make(dice, **more) for _ in range(number)]


def outcome(state, span=SPAN, most=24):
    """What comes of a beat: how much the clock grows, and the places and speeds by names; or when Crowded comes."""
    made = world_of(state)
    clock = Fraction(*state[2])
    try:
        made.beat(told(span), most=most)
    except Crowded as crowded:
        return ("crowded", Fraction(*crowded.clock) - clock)
    return ("done", Fraction(*made.state()[2]) - clock, {row[0]: (values(row[4]), values(row[5])) for row in made.state()[3]})


def changed(state, corner=None, place=None, speed=None, rail=None, pull=None, mass=1, name=None):
    """The state with each of these changed; corner, place, speed, rail and pull by functions of two numbers."""
    def same(x, y):
        return (x, y)
    corner, place, speed, rail, pull, name = (corner or same, place or same, speed or same, rail or same, pull or same,
                                              name or str)
    rows = []
    for old, shape, weight, line, at, rate in state[3]:
        corners = [corner(x, y) for x, y in shape]
        (a, b), (c, d), (e, f) = corners[:3]
        if (c - a) * (f - b) < (d - b) * (e - a):
            corners = corners[::-1]
        rows.append((name(old), corners, weight * mass, None if line is None else rail(*line), spot(*place(*values(at))),
                     spot(*speed(*values(rate)))))
    return (spot(*pull(*values(state[0]))), state[1], state[2], rows)


def mapped(result, place=None, speed=None, clock=1, name=str):
    """The outcome with its places and speeds changed by functions of two numbers, its clock's growth by a factor."""
    if result[0] == "crowded":
        return ("crowded", result[1] * clock)
    found = {name(each): (list(place(*at)) if place else at, list(speed(*rate)) if speed else rate)
             for each, (at, rate) in result[2].items()}
    return ("done", result[1] * clock, found)


class ChangesNothing(unittest.TestCase):
    """Point 43."""

    def assert_alike(self, cases, change, span=SPAN, **mapping):
        """Each beat of the changed state comes out as that of the state, mapped; with few meetings allowed, too."""
        meetings = 0
        for state in cases:
            for most in [24, 2, 0]:
                ahead = outcome(state, most=most)
                self.assertEqual(outcome(change(state), span, most), mapped(ahead, **mapping))
                meetings += ahead[0] == "crowded"
        self.assertGreater(meetings, 5)

    def test_other_names(self):
        letters = "abcdefghijklmnopqrstuvwxyz"

        def other(name):
            return "".join(letters[25 - letters.index(letter)] for letter in name)
        self.assert_alike(states(150), lambda state: changed(state, name=other), name=other)

    def test_another_order(self):
        dice = random.Random(151)
        for state in states(152):
            made = world_of(state[:3] + ((),))
            for row in dice.sample(state[3], len(state[3])):
                made.add(row)
            self.assertEqual(made.state(), state)
            self.assertEqual(outcome(made.state()), outcome(state))

    def test_all_places_moved_by_one_spot(self):
        def shift(x, y):
            return (x + Fraction(22, 7), y - 1000)
        self.assert_alike(states(153), lambda state: changed(state, place=shift), place=shift)

    def test_mirrored(self):
        def mirror(x, y):
            return (-x, y)
        self.assert_alike(states(154), lambda state: changed(state, mirror, mirror, mirror, mirror, mirror), place=mirror,
                          speed=mirror)

    def test_turned_by_a_quarter(self):
        def quarter(x, y):
            return (-y, x)
        self.assert_alike(states(155), lambda state: changed(state, quarter, quarter, quarter, quarter, quarter),
                          place=quarter, speed=quarter)

    def test_masses_times_a_number(self):
        for factor in [2, 7, 1000]:
            self.assert_alike(states(156, 5), lambda state: changed(state, mass=factor))

    def test_all_lengths_times_a_number(self):
        for factor in [2, 7, 1000]:
            def times(x, y):
                return (x * factor, y * factor)
            self.assert_alike(states(157, 5), lambda state: changed(state, times, times, times, None, times), place=times,
                              speed=times)

    def test_speeds_times_a_share(self):
        for factor in [Fraction(2), Fraction(1, 3), Fraction(7, 5)]:
            def times(x, y):
                return (x * factor, y * factor)

            def twice(x, y):
                return times(*times(x, y))
            self.assert_alike(states(158, 5), lambda state: changed(state, speed=times, pull=twice), SPAN / factor, speed=times,
                              clock=1 / factor)

    def test_each_speed_more_by_one_spot(self):
        x, y = Fraction(3, 2), Fraction(-5)
        self.assert_alike(states(159, make=some_swarm), lambda state: changed(state, speed=lambda u, v: (u + x, v + y)),
                          speed=lambda u, v: (u + x, v + y), place=lambda u, v: (u + SPAN * x, v + SPAN * y))

    def test_two_worlds_in_one(self):
        count = 0
        for one, other in zip(states(160, 12, some_swarm, count=4), states(161, 12, some_room_state)):
            other = one[:3] + (changed(other, place=lambda x, y: (x + 10 ** 6, y), name=lambda name: name + "z")[3],)
            other = world_of(other).state()
            both = one[:3] + (one[3] + other[3],)
            results = [outcome(state) for state in (one, other, both)]
            if all(result[0] == "done" for result in results):
                count += 1
                self.assertEqual(results[2][2], {**results[0][2], **results[1][2]})
        self.assertGreater(count, 5)


def some_room_state(dice):
    return some_state(dice, 3)


class Splitting(unittest.TestCase):
    """Point 44."""

    def test_two_spans(self):
        count = 0
        for state in states(162, pull=False) + states(163, make=some_swarm, pull=False):
            for one, other in [(Fraction(1, 2), Fraction(1, 4)), (Fraction(1, 7), SPAN - Fraction(1, 7))]:
                whole, parts = world_of(state), world_of(state)
                try:
                    whole.beat(told(one + other))
                    parts.beat(told(one))
                    parts.beat(told(other))
                except Crowded:
                    continue
                count += 1
                self.assertEqual(whole, parts)
        self.assertGreater(count, 20)

    def test_split_just_at_a_meeting(self):
        count = 0
        for state in states(164, 8, pull=False):
            whole = world_of(state)
            try:
                acts = whole.beat(told(SPAN))[2]
            except Crowded:
                continue
            gone = Fraction(0)
            for act in acts:
                if act[0] == "fly":
                    gone += Fraction(*act[1])
                    if gone < SPAN:
                        count += 1
                        parts = world_of(state)
                        parts.beat(told(gone))
                        self.assertEqual(parts.beat(told(SPAN - gone))[2][0][0], "meet")
                        self.assertEqual(whole, parts)
        self.assertGreater(count, 8)

    def test_still_bodies(self):
        dice = random.Random(165)
        words = {"stands": 0, "parts": 0}
        for _ in range(80):
            rows = with_speeds(some_heap(dice, dice.randint(2, 7)), {})
            pull = some_spot(dice, 2, 1)
            made = world_of((pull, dice.choice(GIVES), NOUGHT, rows))
            state = made.state()
            try:
                word, span, acts = made.beat((1, 2))
            except Crowded:
                continue
            self.assertEqual(acts[0][0], "pull")
            kick = spot(*[part / 2 for part in values(pull)])
            stands = standing(rows, pull)[0]
            words[stands] += 1
            self.assertEqual(pulled(rows, kick, acts[0]) == rows, stands == "stands")
            if stands == "stands":
                self.assertEqual(made.state(), state[:2] + ((1, 2), rows))
            else:
                self.assertNotEqual(made.state()[3], rows)
        self.assertGreater(min(words.values()), 2)


def touching_ways(one, other):
    """Along how many pair ways two bodies touch."""
    found = []
    for p, q in rough_ways(one, other):
        if gap_of(one, other, (p, q)) == 0 and not any(p * v == q * u and p * u + q * v > 0 for u, v in found):
            found.append((p, q))
    return len(found)


def can_be_turned_back(state, entry):
    """Whether a beat's acts are such as point 45 asks for."""
    pull, give, clock, rows = state
    for at, act in enumerate(entry[2]):
        if act[0] == "pull":
            rows = pulled(rows, STILL, act)
        elif act[0] == "fly":
            rows = tuple(moved(row, act[1]) for row in rows)
        else:
            word, given, pushes, more = act
            behind = pushed(rows, given, pushes)
            one_way = all(touching_ways(find_row(rows, low), find_row(rows, high)) == 1 for low, high, way in given)
            still = all(parting(behind, contact) == NOUGHT for contact in given)
            if at == 0 or not one_way or not still or any(push != NOUGHT for push in more):
                return False
            rows = met(rows, give, act)
    return True


class TurnedBack(unittest.TestCase):
    """Point 45."""

    def assert_back(self, state, span):
        """The beat goes back where it may; tells how many meetings it had, or None."""
        made = world_of(state)
        try:
            entry = made.beat(span)
        except Crowded:
            return None
        if not can_be_turned_back(state, entry):
            return None
        made.turn()
        made.beat(span)
        made.turn()
        self.assertEqual(made.state()[3], state[3])
        self.assertEqual(Fraction(*made.state()[2]), Fraction(*state[2]) + 2 * Fraction(*span))
        return [act[0] for act in entry[2]].count("meet")

    def test_many(self):
        counts = []
        for state in states(166, 15, pull=False) + states(167, 15, some_swarm, pull=False, count=5):
            for span in [(1, 2), (1, 1), (2, 1)]:
                counts.append(self.assert_back((STILL, WHOLE) + state[2:], span))
        counts = [count for count in counts if count]
        self.assertGreater(len(counts), 20)
        self.assertGreater(max(counts), 3)

    def test_between_two_walls(self):
        rows = world(wall("v", BOX, at=spot(-2, 0)), wall("w", BOX, at=spot(8, 0)), box("b", 3, 0, (2, 0)),
                     railed("r", BOX, rail=(1, 1), at=spot(20, 20), speed=spot(3, 3)), free("s", DIAMOND, at=spot(31, 31)))
        self.assertEqual(self.assert_back((STILL, WHOLE, NOUGHT, rows), (20, 1)), 8)
        rows = world(box("a", 0, 0, (3, 0)), box("b", 3, 0, mass=2), box("c", 7, 0), wall("w", BOX, at=spot(12, 0)))
        self.assertEqual(self.assert_back((STILL, WHOLE, NOUGHT, rows), (4, 1)), 4)

    def test_with_give_nought_it_does_not_go_back(self):
        rows = world(box("a", 0, 0, (3, 0)), box("b", 3, 0))
        made = world_of((STILL, NOUGHT, NOUGHT, rows))
        made.beat()
        made.turn()
        made.beat()
        made.turn()
        self.assertNotEqual(made.state()[3], rows)


class Whole(unittest.TestCase):
    """Point 2."""

    def do_something(self, made, dice):
        names = [row[0] for row in made.state()[3]]
        choice = dice.randint(0, 9)
        if choice == 0:
            made.add(box("new", dice.randint(0, 12), dice.randint(0, 12), shape=dice.choice(SHAPES), mass=3))
        elif choice == 1:
            made.take(dice.choice(names))
        elif choice == 2:
            made.turn()
        elif choice == 3:
            made.back()
        elif choice < 6:
            made.shove(dice.choice(names), (some_share(dice), some_share(dice)))
        else:
            made.beat(told(Fraction(1, dice.randint(1, 3))))

    def assert_whole(self, made):
        rows = made.state()[3]
        for at, one in enumerate(rows):
            for other in rows[at + 1:]:
                self.assertFalse(are_over(one, other))
        self.assertEqual(world_of(made.state()).state(), made.state())

    def test_whatever_is_done(self):
        dice = random.Random(168)
        refused = done = 0
        for state in states(169, 8):
            made = world_of(state)
            for _ in range(14):
                ahead = (made.state(), made.story())
                try:
                    self.do_something(made, dice)
                    done += 1
                except BodyError:
                    refused += 1
                    self.assertEqual((made.state(), made.story()), ahead)
                self.assert_whole(made)
            self.assertEqual(audit(made.start(), made.story()), made.state())
            again = replay(made.start(), deeds(made.story()))
            self.assertEqual((again.state(), again.story()), (made.state(), made.story()))
            self.assertEqual(read_state(state_text(made.state())), made.state())
            self.assertEqual(str(made), state_text(made.state()))
            while made:
                made.back()
            self.assertEqual(made.state(), state)
        self.assertGreater(done, 60)
        self.assertGreater(refused, 3)

    def test_walls_stay_and_rails_hold(self):
        for state in states(170, 6):
            made = world_of(state)
            try:
                made.beat()
            except (Crowded, TooFine):
                continue
            for ahead, behind in zip(state[3], made.state()[3]):
                self.assertEqual(ahead[:4], behind[:4])
                if ahead[2] == 0:
                    self.assertEqual(ahead, behind)
                if ahead[3] is not None:
                    p, q = ahead[3]
                    (x, y), (u, v) = values(ahead[4]), values(behind[4])
                    self.assertEqual(p * (v - y), q * (u - x))

    def test_nothing_leaves_a_room(self):
        for state in states(171, 6):
            made = world_of(state)
            for _ in range(3):
                try:
                    made.beat()
                except (Crowded, TooFine):
                    break
            for row in made.state()[3]:
                if row[2] > 0:
                    self.assertTrue(all(0 <= x <= 14 and 0 <= y <= 14 for x, y in corners_of(row)))


if __name__ == "__main__":
    unittest.main()
