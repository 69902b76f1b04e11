"""Point 25 (find_pushes)."""

import inspect
import random
import time
import unittest
from fractions import Fraction
from itertools import combinations
from math import gcd

from helpers import BOX, EIGHT, LETTERS, box, do_hold, some_contacts, some_row, speeds_behind, spot, told, world
from restbodies import solving
from restbodies.bodies import free, railed, wall
from restbodies.bounds import FIGURES, MASS, REACH
from restbodies.contacts import contacts
from restbodies.pushes import pushed, pushes_held
from restbodies.shares import is_share
from restbodies.solving import find_pushes

RIGHT = (1, 0)
UP = (0, 1)


class Cases(unittest.TestCase):

    def assert_found(self, rows, given):
        found = find_pushes(rows, given)
        self.assertIs(type(found), tuple)
        self.assertEqual(len(found), len(given))
        self.assertTrue(all(is_share(push) and push[0] >= 0 for push in found))
        self.assertTrue(do_hold(rows, given, found))
        self.assertIs(pushes_held(rows, given, found), True)
        self.assertEqual(find_pushes(rows, given), found)
        return found

    def assert_speeds(self, rows, given, due):
        """The pushes hold and the speeds behind are these."""
        behind = pushed(rows, given, self.assert_found(rows, given))
        self.assertEqual({row[0]: row[5] for row in behind}, {name: spot(*due[name]) for name in due})


class Interface(unittest.TestCase):

    def test_arguments(self):
        self.assertEqual(str(inspect.signature(find_pushes)), "(rows, contacts)")
        self.assertEqual(find_pushes.__module__, "restbodies.solving")
        self.assertIs(solving.find_pushes, find_pushes)


class FindPushes(Cases):

    def test_no_contact(self):
        for rows in [(), (box("a", 0, 0, (1, 1)),), world(box("a", 0, 0, (1, 0)), box("b", 2, 0))]:
            self.assertEqual(self.assert_found(rows, ()), ())

    def test_one(self):
        given = (("a", "b", RIGHT),)
        rows = world(box("a", 0, 0, (1, 0), mass=2), box("b", 2, 0, (Fraction(-1, 2), 3), mass=3))
        self.assertEqual(self.assert_found(rows, given), ((9, 5),))
        self.assertEqual(self.assert_found(rows, (("a", "b", (-1, 0)),)), ((0, 1),))
        self.assertEqual(self.assert_found(rows, (("a", "b", UP),)), ((0, 1),))
        self.assertEqual(self.assert_found(rows, (("a", "b", (2, 1)),)), ((0, 1),))
        self.assertEqual(self.assert_found(rows, (("a", "b", (3, 1)),)), ((9, 50),))

    def test_a_wall_and_a_railed_one(self):
        rows = world(wall("w", BOX), box("a", 0, 2, (1, -3), mass=5), railed("r", BOX, rail=(1, 1), mass=2,
                                                                            speed=spot(-2, -2)))
        self.assertEqual(self.assert_found(rows, (("a", "w", (0, -1)),)), ((15, 1),))
        self.assertEqual(self.assert_found(rows, (("r", "w", (0, -1)),)), ((8, 1),))
        self.assert_speeds(rows, (("r", "w", (0, -1)),), {"w": (0, 0), "a": (1, -3), "r": (0, 0)})

    def test_a_row_of_bodies_that_knock_on_one_another(self):
        rows = tuple(box(name, 2 * at, 0, (1 if at == 0 else 0, 0)) for at, name in enumerate("abcdefgh"))
        given = tuple((low, high, RIGHT) for low, high in zip("abcdefg", "bcdefgh"))
        self.assertEqual(contacts(rows), given)
        self.assert_speeds(rows, given, {name: (Fraction(1, 8), 0) for name in "abcdefgh"})
        # The heavy ones behind are faster than the light ones ahead are made.
        rows = world(box("a", 0, 0, (3, 0)), box("b", 2, 0, mass=2), box("c", 4, 0, (2, 0)))
        self.assert_speeds(rows, given[:2], {"a": (1, 0), "b": (1, 0), "c": (2, 0)})

    def test_a_body_between_two_walls(self):
        rows = world(wall("l", BOX), box("m", 2, 0, (5, 7)), wall("r", BOX, at=spot(4, 0)))
        given = contacts(rows)
        self.assertEqual(self.assert_found(rows, given), ((0, 1), (5, 1)))
        self.assert_speeds(rows, given, {"l": (0, 0), "m": (0, 7), "r": (0, 0)})

    def test_between_two_slopes(self):
        rows = world(wall("l", BOX), box("m", 2, 0, (0, -1)), wall("r", BOX))
        given = (("l", "m", (1, 1)), ("m", "r", (1, -1)))
        self.assertEqual(self.assert_found(rows, given), ((1, 2), (1, 2)))

    def test_a_box_on_two_others(self):
        rows = world(box("a", 0, 0), box("b", 2, 0), box("c", 1, 2, (0, -3)), wall("w", ((-9, -2), (9, -2), (9, 0), (-9, 0))))
        given = contacts(rows)
        self.assertEqual([each[:2] for each in given], [("a", "b"), ("a", "c"), ("a", "w"), ("b", "c"), ("b", "w")])
        self.assert_speeds(rows, given, {name: (0, 0) for name in "abcw"})
        loose = rows[:3]
        self.assert_speeds(loose, contacts(loose), {name: (0, -1) for name in "abc"})

    def test_one_that_is_held_and_let_go_again(self):
        # The light one is pushed ahead by b, which a pushes then faster than c was.
        rows = world(box("a", 0, 0, (9, 0)), box("b", 2, 0, (1, 0), mass=9), box("c", 4, 0, mass=9))
        given = (("b", "c", RIGHT), ("a", "b", RIGHT))
        self.assert_found(rows, given)
        dice = random.Random(50)
        for _ in range(300):
            rows = tuple(some_row(dice, name, 5, 2) for name in "abcd")
            self.assert_found(rows, some_contacts(dice, rows, 7, 3))

    def test_many_that_are_let_go(self):
        # Ways that are almost the same, and masses that are far from one another, make held ones fall together.
        dice = random.Random(56)
        for at in range(240):
            few, names = ((5, 6, 7, -5, -6, -7), LETTERS[:6]) if at % 2 else ((1, 2), LETTERS[:10])
            rows = tuple(box(name, 0, 0, (dice.randint(-9, 9), dice.randint(-2, 2)),
                             mass=1 if at % 2 else 10 ** dice.randint(0, 6)) for name in names)
            given = []
            while len(given) < 30:
                low = dice.randrange(len(names) - 1)
                high = dice.randrange(low + 1, min(low + (6 if at % 2 else 3), len(names)))
                way = (dice.choice(few), dice.choice((1, 2, 3, 4, -1)))
                if gcd(*way) == 1:
                    given.append((names[low], names[high], way))
            found = find_pushes(rows, tuple(given))
            self.assertTrue(do_hold(rows, given, found))

    def test_the_same_contact_several_times(self):
        rows = world(box("a", 0, 0, (1, 0)), box("b", 2, 0))
        for many in (2, 3, 66):
            found = self.assert_found(rows, (("a", "b", RIGHT),) * many)
            self.assertEqual(sum(Fraction(*push) for push in found), Fraction(1, 2))
        self.assert_found(rows, (("a", "b", RIGHT), ("a", "b", (-1, 0))) * 3)

    def test_contacts_that_hang_on_one_another(self):
        rows = world(box("a", 0, 0, (3, 4)), box("b", 2, 0, (-1, -2)), box("c", 0, 0, (0, 1)))
        for ways in [(RIGHT, UP, (1, 1)), ((1, 1), RIGHT, UP), (RIGHT, UP, (1, 1), (2, 1), (-1, 5), (-1, -1)),
                     (RIGHT, (-1, 0), UP, (0, -1))]:
            self.assert_found(rows, tuple(("a", "b", way) for way in ways))
        ring = (("a", "b", RIGHT), ("b", "c", RIGHT), ("a", "c", RIGHT))
        for given in (ring, ring[::-1], ring * 2):
            self.assert_found(rows, given)

    def test_two_walls_and_two_railed_ones(self):
        rows = world(wall("v", BOX), wall("w", BOX), railed("r", BOX, rail=(1, 0), speed=spot(3, 0)),
                     railed("s", BOX, rail=(0, 1), mass=4, speed=spot(0, -1)),
                     railed("t", BOX, rail=(1, 0), mass=2))
        self.assertEqual(self.assert_found(rows, (("v", "w", RIGHT),))[0][0], 0)
        self.assert_found(rows, (("v", "w", RIGHT),) * 5 + (("r", "v", RIGHT),))
        self.assertEqual(self.assert_found(rows, (("r", "t", UP),)), ((0, 1),))
        self.assertEqual(self.assert_found(rows, (("r", "t", RIGHT),)), ((2, 1),))
        self.assertEqual(self.assert_found(rows, (("r", "s", (1, 1)),)), ((16, 5),))
        self.assert_found(rows, (("r", "s", (1, 1)), ("r", "t", RIGHT), ("s", "t", (1, -2)), ("r", "v", (1, 5))))

    def test_places_are_not_looked_at(self):
        given = (("a", "b", RIGHT),)
        for x in (0, 2, 900):
            rows = world(box("a", 0, 0, (1, 0)), box("b", x, 0))
            self.assertEqual(self.assert_found(rows, given), ((1, 2),))

    def test_the_speeds_are_the_same_whatever_the_order(self):
        dice = random.Random(51)
        for _ in range(60):
            rows = tuple(some_row(dice, name, 4, 3) for name in LETTERS[:dice.randint(2, 7)])
            given = list(some_contacts(dice, rows, dice.randint(1, 16)))
            due = speeds_behind(rows, given, self.assert_found(rows, tuple(given)))
            for _ in range(2):
                dice.shuffle(given)
                found = self.assert_found(rows, tuple(given))
                self.assertEqual(speeds_behind(rows, given, found), due)

    def test_where_all_choices_can_be_tried(self):
        dice = random.Random(52)
        for _ in range(40):
            rows = tuple(some_row(dice, name, 4, 3) for name in "abc")
            given = some_contacts(dice, rows, 3)
            speeds = speeds_behind(rows, given, self.assert_found(rows, given))
            tried = [speeds_behind(rows, given, pushes) for pushes in choices(rows, given)]
            self.assertTrue(tried)
            self.assertTrue(all(each == speeds for each in tried))


def choices(rows, given):
    """Pushes that hold, one for each choice of held contacts that has just one answer and is right."""
    found = []
    for count in range(len(given) + 1):
        for held in combinations(range(len(given)), count):
            pushes = only_answer(rows, given, held)
            if pushes is not None and do_hold(rows, given, pushes):
                found.append(pushes)
    return found


def only_answer(rows, given, held):
    """The pushes of held contacts, the others nought, by which their partings are nought; None where it isn't one."""
    def partings(pushes):
        speeds = speeds_behind(rows, given, pushes)
        return [p * (speeds[high][0] - speeds[low][0]) + q * (speeds[high][1] - speeds[low][1])
                for low, high, (p, q) in given]
    nought = [(0, 1)] * len(given)
    start = partings(nought)
    columns = [[now - was for now, was in zip(partings(nought[:at] + [(1, 1)] + nought[at + 1:]), start)] for at in held]
    lines = [[column[at] for column in columns] + [-start[at]] for at in held]
    for at in range(len(held)):
        lead = next((line for line in lines[at:] if line[at] != 0), None)
        if lead is None:
            return None
        lines.remove(lead)
        lines.insert(at, [part / lead[at] for part in lead])
        lines = [line if place == at else [part - line[at] * up for part, up in zip(line, lines[at])]
                 for place, line in enumerate(lines)]
    pushes = list(nought)
    for line, at in zip(lines, held):
        pushes[at] = told(line[-1])
    return tuple(pushes)


class Many(Cases):
    """Sixty contacts can't be done by trying all choices of them."""

    def assert_soon(self, rows, given, seconds=5):
        start = time.perf_counter()
        found = find_pushes(rows, given)
        self.assertLess(time.perf_counter() - start, seconds)
        self.assertIs(pushes_held(rows, given, found), True)

    def test_forty_to_sixty_six(self):
        dice = random.Random(53)
        for count in (40, 45, 50, 55, 60, 66):
            for top in (1, 3, 1000):
                rows = tuple(some_row(dice, name, 30, 9) for name in LETTERS[:10])
                given = some_contacts(dice, rows, count, top)
                self.assertEqual(len(given), count)
                self.assert_soon(rows, given)

    def test_each_two_of_twelve(self):
        rows = tuple(box(name, 0, 0, (-at, at * at % 7), mass=at + 1) for at, name in enumerate(LETTERS))
        for ways in [[RIGHT], [RIGHT, UP], [(1, 1), (2, -1), (1, 5)]]:
            pairs = list(combinations(LETTERS, 2))
            given = tuple((low, high, ways[at % len(ways)]) for at, (low, high) in enumerate(pairs))
            self.assertEqual(len(given), 66)
            self.assert_soon(rows, given)

    def test_a_heap(self):
        floor = wall("floor", ((-50, -2), (50, -2), (50, 0), (-50, 0)))
        spots = [(0, 0), (2, 0), (4, 0), (6, 0), (1, 2), (3, 2), (5, 2), (2, 4), (4, 4), (3, 6)]
        rows = world(floor, *(box(name, x, y, (at % 3 - 1, -at), mass=at + 1)
                              for at, (name, (x, y)) in enumerate(zip(LETTERS, spots))))
        given = contacts(rows)
        self.assertGreater(len(given), 20)
        self.assert_soon(rows, given)
        self.assert_soon(rows, given * 2)
        self.assert_soon(rows, (given * 3)[:66])

    def test_great_numbers(self):
        dice = random.Random(54)
        rows = []
        for name in LETTERS[:10]:
            speed = spot(*(Fraction(dice.randint(-10 ** 60, 10 ** 60), dice.randint(1, 10 ** 60)) for _ in "xy"))
            rows.append(free(name, EIGHT, mass=dice.randint(1, MASS), speed=speed))
        p, q = REACH - 1, -REACH
        rows[3] = railed("d", EIGHT, rail=(p, q), mass=MASS - 1, speed=spot(Fraction(p, 3), Fraction(q, 3)))
        rows = tuple(rows)
        self.assert_soon(rows, some_contacts(dice, rows, 60, 4 * REACH))

    def test_speeds_of_many_figures(self):
        dice = random.Random(55)
        top = 10 ** (FIGURES // 2)
        rows = tuple(free(name, BOX, mass=at + 1, speed=spot(*(Fraction(dice.randint(-top, top), dice.randint(1, top))
                                                                for _ in "xy")))
                     for at, name in enumerate(LETTERS[:6]))
        self.assert_soon(rows, some_contacts(dice, rows, 20, 2), 20)


if __name__ == "__main__":
    unittest.main()
