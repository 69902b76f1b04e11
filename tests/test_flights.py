"""Point 21."""

import inspect
import random
import unittest
from fractions import Fraction

from helpers import (
    ANYTHING, BOX, Held, are_over, box, broken, gap_of, meeting_time, some_row, spot, told, world,
)
from restbodies import flights
from restbodies.bodies import railed, wall
from restbodies.errors import Early
from restbodies.flights import flight, flight_held, next_time
from restbodies.spots import is_way

HAIR = Fraction(1, 10 ** 60)
FLOOR = wall("floor", ((-50, -2), (50, -2), (50, 0), (-50, 0)))


def some_worlds(count, seed):
    """Worlds of which no two bodies that aren't both walls are over."""
    dice = random.Random(seed)
    found = []
    while len(found) < count:
        rows = []
        for name in dice.sample(["a", "ab", "b", "c", "d", "e"], dice.randint(0, 6)):
            row = some_row(dice, name, 12, 2)
            if not any(are_over(row, other) for other in rows if row[2] or other[2]):
                rows.append(row)
        found.append(world(*rows))
    return found


def pairs_of(rows):
    return [(one, other) for one in rows for other in rows if one[0] < other[0] and (one[2] or other[2])]


def times_of(rows):
    found = [meeting_time(one, other) for one, other in pairs_of(rows)]
    return [time for time in found if time is not None]


class Interface(unittest.TestCase):

    def test_arguments(self):
        for name, arguments in [
            ("next_time", "(rows, span)"), ("flight", "(rows, span)"), ("flight_held", "(rows, span, papers)"),
        ]:
            self.assertEqual(str(inspect.signature(getattr(flights, name))), arguments)
            self.assertEqual(getattr(flights, name).__module__, "restbodies.flights")


class NextTime(unittest.TestCase):

    def test_none(self):
        for rows in [
            (), (box("a", 0, 0, (1, 1)),), (FLOOR,), world(box("a", 0, 0), box("b", 2, 0), FLOOR),
            world(box("a", 0, 0, (-1, 0)), box("b", 2, 0)), world(box("a", 0, 0, (5, 0)), box("b", 9, 3)),
        ]:
            self.assertIsNone(next_time(rows, (10 ** 30, 1)))

    def test_a_meeting_just_at_the_span(self):
        rows = world(box("a", 0, 0, (1, 0)), box("b", 5, 1, (-1, 0)))
        for span, due in [(1, None), (Fraction(3, 2), None), (Fraction(3, 2) + HAIR, (3, 2)), (2, (3, 2))]:
            self.assertEqual(next_time(rows, told(span)), due)

    def test_the_least_of_several(self):
        rows = world(box("a", 0, 0, (1, 0)), box("b", 9, 0), box("c", 0, 20, (0, -1)), box("d", 0, 14, (0, -1)),
                     box("e", 9, 5, (0, -2)))
        # b and e meet at 3/2, a and b at 7.
        self.assertEqual(next_time(rows, (100, 1)), (3, 2))
        self.assertIsNone(next_time(rows, (3, 2)))
        self.assertEqual(next_time(rows[:4], (100, 1)), (7, 1))
        self.assertEqual(next_time(rows[2:4] + (FLOOR,), (100, 1)), (14, 1))

    def test_nought_where_two_that_touch_close(self):
        rows = world(box("a", 0, 0), box("b", 2, 1, (-1, 0)), box("c", 9, 1, (-9, 0)))
        self.assertEqual(next_time(rows, (1, 10 ** 30)), (0, 1))
        self.assertEqual(next_time(rows, (5, 1)), (0, 1))

    def test_two_walls_are_not_asked_about(self):
        rows = world(wall("a", BOX), wall("b", BOX, at=spot(1, 0)), wall("c", BOX))
        self.assertIsNone(next_time(rows, (9, 1)))
        self.assertEqual(next_time(rows + (box("d", 0, 5, (0, -1)),), (9, 1)), (3, 1))

    def test_kinds(self):
        cart = railed("c", BOX, rail=(1, 0), at=spot(-6, 0), speed=spot(2, 0))
        self.assertEqual(next_time(world(cart, wall("w", BOX)), (9, 1)), (2, 1))
        self.assertEqual(next_time(world(cart, box("b", 0, 0, (-2, 0))), (9, 1)), (1, 1))

    def test_many(self):
        met = 0
        for rows in some_worlds(80, 20):
            times = times_of(rows)
            for span in {Fraction(1, 3), Fraction(2), Fraction(40), *times} - {0}:
                below = [time for time in times if time < span]
                met += len(below) > 0
                due = told(min(below)) if below else None
                self.assertEqual(next_time(rows, told(span)), due)
                self.assertEqual(next_time(rows, told(span)), due)
        self.assertGreater(met, 40)


class Flight(Held, unittest.TestCase):

    def assert_flies(self, rows, span):
        papers = flight(rows, told(span))
        self.assertIs(type(papers), tuple)
        self.assertEqual([entry[:2] for entry in papers], [(one[0], other[0]) for one, other in pairs_of(rows)])
        for entry, (one, other) in zip(papers, pairs_of(rows)):
            self.assertIs(type(entry), tuple)
            self.assertEqual(len(entry), 3)
            self.assertTrue(is_way(entry[2]))
            self.assertGreaterEqual(gap_of(one, other, entry[2]), 0)
            self.assertGreaterEqual(gap_of(one, other, entry[2], span), 0)
        self.assertIs(flight_held(rows, told(span), papers), True)
        self.assertEqual(flight(rows, told(span)), papers)
        return papers

    def assert_early(self, rows, span, time):
        with self.assertRaises(Early) as caught:
            flight(rows, told(span))
        self.assertIs(type(caught.exception), Early)
        self.assertEqual(caught.exception.time, told(time))
        self.assertEqual(next_time(rows, told(span)), told(time))

    def test_entries(self):
        rows = world(box("b", 0, 0), box("ab", 0, 2), FLOOR, wall("wall", BOX, at=spot(9, 0)), box("a", 5, 5, (0, -1)))
        papers = self.assert_flies(rows, 3)
        self.assertEqual([entry[:2] for entry in papers], [
            ("a", "ab"), ("a", "b"), ("a", "floor"), ("a", "wall"), ("ab", "b"), ("ab", "floor"), ("ab", "wall"),
            ("b", "floor"), ("b", "wall")])
        self.assertEqual(papers[7], ("b", "floor", (0, -1)))

    def test_no_pair(self):
        for rows in [(), (FLOOR,), (box("a", 0, 0, (1, 1)),), world(wall("a", BOX), wall("b", BOX))]:
            self.assertEqual(flight(rows, (1, 1)), ())
            self.assert_held(True, flight_held, rows, (1, 1), ())
            self.assert_held(False, flight_held, rows, (1, 1), [])
            self.assert_held(False, flight_held, rows, (1, 1), (("a", "b", (1, 0)),))

    def test_early(self):
        rows = world(box("a", 0, 0, (1, 0)), box("b", 5, 1, (-1, 0)), box("c", 0, 9, (0, -5)))
        self.assert_early(rows, 9, Fraction(7, 5))
        self.assert_early(rows, Fraction(7, 5) + HAIR, Fraction(7, 5))
        self.assert_flies(rows, Fraction(7, 5))
        self.assert_flies(rows, Fraction(7, 5) - HAIR)
        self.assert_early(world(box("a", 0, 0), box("b", 2, 0, (-1, 0))), HAIR, 0)

    def test_walls_that_are_over(self):
        rows = world(wall("a", BOX), wall("b", BOX, at=spot(1, 0)), box("c", 0, 5, (0, -1)))
        self.assertEqual([entry[:2] for entry in self.assert_flies(rows, 3)], [("a", "c"), ("b", "c")])
        self.assert_early(rows, 4, 3)

    def test_past_a_corner(self):
        rows = world(box("a", 0, 0), box("b", 5, -1, (-4, 4)))
        self.assertEqual(self.assert_flies(rows, Fraction(3, 2)), (("a", "b", (1, 1)),))

    def test_many(self):
        flown = 0
        for rows in some_worlds(60, 21):
            times = times_of(rows)
            for span in {Fraction(1, 3), Fraction(2), Fraction(40), *times} - {0}:
                below = [time for time in times if time < span]
                if below:
                    self.assert_early(rows, span, min(below))
                else:
                    flown += self.assert_flies(rows, span) != ()
        self.assertGreater(flown, 40)


class FlightHeld(Held, unittest.TestCase):

    rows = world(box("a", 0, 0, (1, 0)), box("b", 5, 1, (-1, 0)), wall("v", BOX, at=spot(0, 9)),
                 wall("w", BOX, at=spot(1, 9)))
    right = (("a", "b", (1, 0)), ("a", "v", (0, 1)), ("a", "w", (0, 1)), ("b", "v", (0, 1)), ("b", "w", (0, 1)))
    span = (3, 2)

    def refuse(self, papers, span=(3, 2)):
        self.assert_held(False, flight_held, self.rows, span, papers)

    def at(self, place, entry):
        return self.right[:place] + (entry,) + self.right[place + 1:]

    def test_right_ones(self):
        self.assert_held(True, flight_held, self.rows, self.span, self.right)
        self.assert_held(True, flight_held, self.rows, self.span, self.at(3, ("b", "v", (-1, 1))))
        self.assert_held(True, flight_held, self.rows, self.span, self.at(3, ("b", "v", (-1, 10 ** 30))))
        self.assert_held(True, flight_held, self.rows, (1, 1), self.at(0, ("a", "b", (7, 1))))

    def test_missing_doubled_and_added_entries(self):
        for place in range(5):
            self.refuse(self.right[:place] + self.right[place + 1:])
            self.refuse(self.right[:place] + self.right[place:place + 1] + self.right[place:])
            self.refuse(self.at(place, self.right[(place + 1) % 5]))
        self.refuse(self.right + (("v", "w", (1, 0)),))
        self.refuse(self.right + (("w", "v", (1, 0)),))
        self.refuse(self.right + (None,))
        self.refuse(self.at(4, ("v", "w", (1, 0))))

    def test_another_order(self):
        self.refuse(self.right[::-1])
        for place in range(4):
            turned = list(self.right)
            turned[place], turned[place + 1] = turned[place + 1], turned[place]
            self.refuse(tuple(turned))
        self.refuse(self.at(0, ("b", "a", (-1, 0))))
        self.refuse(self.at(0, ("b", "a", (1, 0))))
        self.refuse(self.at(3, ("v", "b", (0, -1))))

    def test_ways(self):
        for way in [(2, 0), (-1, 0), (0, 1), (0, -1), (0, 0), (True, 0), (1, False), [1, 0], (1,), (1, 0, 0), None, "10",
                    ((1, 1), (0, 1)), {1: 0}, 1, True]:
            self.refuse(self.at(0, ("a", "b", way)))
        self.refuse(self.right, (3 * 10 ** 60 + 1, 2 * 10 ** 60))
        self.refuse(self.right, (9, 1))
        self.refuse(self.at(1, ("a", "v", (0, -1))))

    def test_apart_now_or_then_alone(self):
        rows = world(box("a", 0, 0), box("b", 5, 1, (-1, 0)))
        self.assert_held(False, flight_held, rows, (9, 1), (("a", "b", (1, 0)),))
        self.assert_held(False, flight_held, rows, (9, 1), (("a", "b", (-1, 0)),))
        self.assert_held(True, flight_held, rows, (3, 1), (("a", "b", (1, 0)),))

    def test_names(self):
        for name in ["", "c", "A", "a ", None, True, 0, ("a",), ["a"], "v"]:
            self.refuse(self.at(0, (name, "b", (1, 0))))
            self.refuse(self.at(0, ("a", name, (1, 0))))

    def test_wrong_forms(self):
        for papers in broken(self.right) + ANYTHING:
            self.refuse(papers)
        for thing in ANYTHING:
            for place in range(5):
                if thing not in self.right:
                    self.refuse(self.at(place, thing))

    def test_what_another_flight_told(self):
        self.refuse(flight(self.rows[:2], self.span))
        self.refuse(flight(self.rows[:3], self.span))


if __name__ == "__main__":
    unittest.main()
