"""Point 32."""

import copy
import inspect
import itertools
import random
import unittest

from helpers import ANYTHING, BOX, LETTERS, TRIANGLE, box, broken, some_heap, some_share, spot, world
from restbodies import states
from restbodies.bodies import look_row, railed, wall
from restbodies.bounds import BODIES
from restbodies.errors import BadRow, BadState, BodyError, Full, Over, Twice
from restbodies.states import look_state
from restbodies.spots import STILL

LONGEST = 10 ** 400 - 1
LONG = 10 ** 400
FLOOR = wall("floor", ((-9, -1), (9, -1), (9, 0), (-9, 0)))
ROWS = world(box("b", 0, 0, (1, 2), mass=3), FLOOR, railed("r", TRIANGLE, rail=(1, -1), at=spot(0.5, 4)))
STATE = (spot(0, -1), (1, 2), (7, 3), ROWS)


def spread(count):
    return [box(name, 4 * at, 0) for at, name in enumerate((LETTERS + "mnopq")[:count])]


class Look(unittest.TestCase):

    def assert_told(self, thing, due):
        kept = copy.deepcopy(thing)
        for _ in range(2):
            told = look_state(thing)
            self.assertEqual(told, due)
            self.assertEqual([type(part) for part in (told, *told)], [tuple] * 5)
            self.assertTrue(all(type(row) is tuple and type(row[1]) is tuple for row in told[3]))
        self.assertEqual(thing, kept)
        self.assertEqual(look_state(told), told)

    def assert_refused(self, kind, thing, **fields):
        kept = copy.deepcopy(thing)
        with self.subTest(repr(thing)[:200]):
            with self.assertRaises(BodyError) as caught:
                look_state(thing)
            self.assertIs(type(caught.exception), kind)
            self.assertEqual(vars(caught.exception), fields)
            self.assertEqual(thing, kept)

    def test_arguments(self):
        self.assertEqual(str(inspect.signature(states.look_state)), "(thing)")
        self.assertEqual(look_state.__module__, "restbodies.states")

    def test_what_is_a_state(self):
        self.assert_told(STATE, STATE)
        self.assert_told((STILL, (0, 1), (0, 1), ()), (STILL, (0, 1), (0, 1), ()))
        self.assert_told((STILL, (1, 1), (0, 1), []), (STILL, (1, 1), (0, 1), ()))
        self.assert_told((spot(-7, 2), (1, 1), (9, 1), [FLOOR]), (spot(-7, 2), (1, 1), (9, 1), (FLOOR,)))

    def test_any_order_lists_and_tuples(self):
        for rows in itertools.permutations(ROWS):
            self.assert_told(STATE[:3] + (rows,), STATE)
            self.assert_told(STATE[:3] + (list(rows),), STATE)

    def test_names_in_the_texts_own_order(self):
        rows = [box(name, 3 * at, 0) for at, name in enumerate(["b", "ab", "a", "aab", "ba", "z", "abc"])]
        names = [row[0] for row in look_state(STATE[:3] + (rows,))[3]]
        self.assertEqual(names, ["a", "aab", "ab", "abc", "b", "ba", "z"])

    def test_shapes_from_any_corner_on(self):
        for row in ROWS:
            others = [other for other in ROWS if other != row]
            for at in range(len(row[1])):
                corners = row[1][at:] + row[1][:at]
                for shape in [corners, list(corners), [list(corner) for corner in corners]]:
                    self.assert_told(STATE[:3] + ([(row[0], shape) + row[2:]] + others,), STATE)

    def test_bodies_that_touch(self):
        rows = world(box("a", 0, 0), box("b", 2, 0), box("c", 2, 2), wall("v", BOX, at=spot(0, -2)),
                     wall("w", BOX, at=spot(2, -2)))
        self.assert_told(STATE[:3] + (rows,), STATE[:3] + (rows,))

    def test_as_many_bodies_as_may_be(self):
        rows = spread(BODIES)
        self.assert_told(STATE[:3] + (rows[::-1],), STATE[:3] + (tuple(rows),))

    def test_as_many_figures_as_may_be(self):
        for number in [(LONGEST, 1), (-LONGEST, 7), (1, LONGEST)]:
            self.assert_told(((number, (0, 1)),) + STATE[1:], ((number, (0, 1)),) + STATE[1:])
        self.assert_told((STATE[0], (LONGEST - 1, LONGEST), (LONGEST, 4), ()),
                         (STATE[0], (LONGEST - 1, LONGEST), (LONGEST, 4), ()))

    def test_no_tuple_of_four(self):
        for thing in ANYTHING + [list(STATE), STATE[:3], STATE[1:], STATE + (None,), (STATE,), dict(enumerate(STATE))]:
            self.assert_refused(BadState, thing)

    def test_pulls(self):
        wrong = ANYTHING + [((0, 1), (2, 2)), ((0, 1), (True, 1)), ((0, True), (1, 1)), ((LONG, 1), (0, 1)),
                            ((0, 1), (1, LONG)), ((0, 1), (-LONG, 1)), ((0, 1),), ((0, 1), (0, 1), (0, 1)),
                            ((0, 1), (1, -1)), [(0, 1), (0, 1)], ((0, 1), 1)]
        for pull in wrong:
            if pull != STILL:
                self.assert_refused(BadState, (pull,) + STATE[1:])

    def test_gives(self):
        for give in [(0, 1), (1, 1), (1, 2), (LONGEST - 1, LONGEST)]:
            self.assertEqual(look_state((STATE[0], give) + STATE[2:])[1], give)
        wrong = [thing for thing in ANYTHING if thing != (0, 1)]
        wrong += [(-1, 2), (3, 2), (2, 1), (-1, 1), (LONG, LONG + 1), (LONGEST, LONGEST - 1), (2, 4), (True, 2), (1, True),
                  (False, 1), (0, True), (True, True), [1, 2], (0, 2), (1, 0), (1, -2), 0, 1, True, False, "1/2"]
        for give in wrong:
            self.assert_refused(BadState, (STATE[0], give) + STATE[2:])

    def test_clocks(self):
        for clock in [(0, 1), (5, 1), (1, LONGEST), (LONGEST, 1)]:
            self.assertEqual(look_state(STATE[:2] + (clock,) + STATE[3:])[2], clock)
        wrong = [thing for thing in ANYTHING if thing != (0, 1)]
        wrong += [(-1, 2), (-1, 1), (LONG, 1), (1, LONG), (2, 4), (True, 2), (3, True), (False, 1), [1, 2], (0, 2), (1, 0),
                  (-1, -2), 0, 3, True]
        for clock in wrong:
            self.assert_refused(BadState, STATE[:2] + (clock,) + STATE[3:])

    def test_rows_that_are_no_list_or_tuple(self):
        for rows in [None, True, 0, "", "abc", {}, {"a": 1}, {row[0]: row for row in ROWS}, 10 ** 900]:
            self.assert_refused(BadState, STATE[:3] + (rows,))

    def test_wrong_rows(self):
        for thing in ANYTHING:
            self.assert_refused(BadRow, STATE[:3] + ((thing,),), part="form")
            self.assert_refused(BadRow, STATE[:3] + ([*ROWS, thing],), part="form")
        for row in broken(ROWS[0]):
            try:
                look_row(row)
            except BadRow as refused:
                self.assert_refused(BadRow, STATE[:3] + ((FLOOR, row),), part=refused.part)

    def test_the_first_wrong_row_by_place(self):
        no_name, no_mass, no_speed = [ROWS[0][:at] + (None,) + ROWS[0][at + 1:] for at in (0, 2, 5)]
        self.assert_refused(BadRow, STATE[:3] + ((FLOOR, no_mass, no_name, no_speed),), part="mass")
        self.assert_refused(BadRow, STATE[:3] + ((FLOOR, no_speed, no_name, no_mass),), part="speed")
        self.assert_refused(BadRow, STATE[:3] + ([no_name, no_speed, no_name],), part="name")

    def test_twice(self):
        a, b, c, d = spread(4)
        self.assert_refused(Twice, STATE[:3] + ((a, a),), name="a")
        self.assert_refused(Twice, STATE[:3] + ([d, c, b, c, d, a],), name="c")
        self.assert_refused(Twice, STATE[:3] + ([d, c, b, a, d, c],), name="d")
        self.assert_refused(Twice, STATE[:3] + ((a, b, b[:1] + c[1:]),), name="b")

    def test_full(self):
        self.assert_refused(Full, STATE[:3] + (spread(BODIES + 1),))
        self.assert_refused(Full, STATE[:3] + (tuple(spread(BODIES + 4)),))

    def assert_over(self, rows, one, other):
        for order in [rows, rows[::-1], tuple(rows)]:
            self.assert_refused(Over, STATE[:3] + (order,), one=one, other=other)

    def test_over(self):
        self.assert_over([box("b", 0, 0), box("a", 1, 1)], "a", "b")
        self.assert_over([wall("w", BOX), wall("v", BOX, at=spot(1, 0))], "v", "w")
        self.assert_over([wall("w", BOX), box("x", 1, 0)], "w", "x")
        self.assert_over([box("c", 0, 0), box("d", 1, 0), box("a", 9, 0), box("e", 10, 0)], "a", "e")
        self.assert_over([box("c", 0, 0), box("d", 1, 0), box("b", 2, 0), wall("a", BOX, at=spot(8, 8))], "b", "d")

    def test_which_of_several_comes_first(self):
        wrong_row = ("a",)
        many = spread(BODIES + 1)
        twins = [box("a", 0, 0), box("a", 50, 0)]
        lapped = [box("y", 90, 0), box("z", 90, 0)]
        self.assert_refused(BadState, (STATE[0], (2, 1), STATE[2], [wrong_row]))
        self.assert_refused(BadState, (STATE[0], STATE[1], (-1, 1), twins))
        self.assert_refused(BadRow, STATE[:3] + (many + twins + lapped + [wrong_row],), part="form")
        self.assert_refused(Twice, STATE[:3] + (many + lapped + twins,), name="a")
        self.assert_refused(Full, STATE[:3] + (many + lapped,))
        self.assert_refused(Twice, STATE[:3] + (lapped + twins,), name="a")

    def test_many(self):
        dice = random.Random(90)
        for _ in range(60):
            rows = some_heap(dice, dice.randint(0, 12), 8, 3)
            give = dice.choice([(0, 1), (1, 1), (3, 5)])
            state = ((some_share(dice), some_share(dice)), give, (dice.randint(0, 9), 1), rows)
            self.assert_told(state[:3] + (dice.sample(rows, len(rows)),), state)


if __name__ == "__main__":
    unittest.main()
