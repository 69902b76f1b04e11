"""What several test files use: bodies, things of every kind, and gaps reckoned anew with Fractions."""

import copy
import random
from fractions import Fraction
from math import gcd

from restbodies.bodies import free, railed, wall
from restbodies.contacts import closing, contacts
from restbodies.errors import BodyError
from restbodies.flights import flight, next_time
from restbodies.meetings import meeting, met, pulled, pulling
from restbodies.rows import moved

BOX = ((0, 0), (2, 0), (2, 2), (0, 2))
TRIANGLE = ((0, 0), (3, 0), (0, 2))
EIGHT = ((-2, -1), (-1, -2), (1, -2), (2, -1), (2, 1), (1, 2), (-1, 2), (-2, 1))
THIN = ((0, 0), (7, 1), (1, 1))
DIAMOND = ((-1, 0), (0, -1), (1, 0), (0, 1))
SHAPES = (BOX, TRIANGLE, EIGHT, THIN, DIAMOND)
LETTERS = "abcdefghijkl"


def told(value):
    value = Fraction(value)
    return (value.numerator, value.denominator)


def spot(x, y):
    return (told(x), told(y))


def values(thing):
    return [Fraction(*part) for part in thing]


def box(name, x, y, speed=(0, 0), shape=BOX, **more):
    """A free body at a place, with a speed, both in plain numbers."""
    return free(name, shape, at=spot(x, y), speed=spot(*speed), **more)


def world(*rows):
    return tuple(sorted(rows))


def corners_of(row, after=0):
    x, y = values(row[4])
    u, v = values(row[5])
    return [(a + x + after * u, b + y + after * v) for a, b in row[1]]


def gap_of(one, other, way, after=0):
    """The gap by the corners, as a Fraction."""
    p, q = way
    ahead = max(p * x + q * y for x, y in corners_of(one, after))
    return min(p * x + q * y for x, y in corners_of(other, after)) - ahead


def side_ways(row):
    """The ways that point outwards, not in lowest terms."""
    ends = zip(row[1], row[1][1:] + row[1][:1])
    return [(d - b, a - c) for (a, b), (c, d) in ends]


def rough_ways(one, other):
    return side_ways(one) + [(-p, -q) for p, q in side_ways(other)]


def are_over(one, other, after=0):
    return all(gap_of(one, other, way, after) < 0 for way in rough_ways(one, other))


def lies_inside(row, place, after=0):
    """Whether a spot lies strictly inside a body."""
    x, y = values(place)
    corners = corners_of(row, after)
    return all((c - a) * (y - b) - (d - b) * (x - a) > 0
               for (a, b), (c, d) in zip(corners, corners[1:] + corners[:1]))


def meeting_time(one, other):
    """When two that aren't over meet, as a Fraction, or None; sought by looking between all times of a gap of nought."""
    marks = {Fraction(0)}
    for way in rough_ways(one, other):
        now, then = gap_of(one, other, way), gap_of(one, other, way, 1)
        if now != then:
            marks.add(now / (now - then))
    marks = sorted(mark for mark in marks if mark >= 0)
    for start, end in zip(marks, marks[1:] + [marks[-1] + 2]):
        if are_over(one, other, (start + end) / 2):
            return start
    return None


def some_share(dice, top=12, bottom=6):
    return told(Fraction(dice.randint(-top, top), dice.randint(1, bottom)))


def some_spot(dice, top=12, bottom=6):
    return (some_share(dice, top, bottom), some_share(dice, top, bottom))


def some_row(dice, name, top=12, bottom=6):
    """A wall, a free or a railed body of some shape."""
    shape = dice.choice(SHAPES)
    place = some_spot(dice, top, bottom)
    kind = dice.randint(0, 4)
    if kind == 0:
        return wall(name, shape, at=place)
    if kind == 1:
        p, q = dice.choice([(1, 0), (0, 1), (1, -1), (2, 3), (-5, 1)])
        part = Fraction(*some_share(dice, top, bottom))
        return railed(name, shape, rail=(p, q), mass=dice.randint(1, 5), at=place, speed=spot(p * part, q * part))
    return free(name, shape, mass=dice.randint(1, 5), at=place, speed=some_spot(dice, top, bottom))


def some_pairs(count, seed, top=12, bottom=6):
    dice = random.Random(seed)
    return [(some_row(dice, "a", top, bottom), some_row(dice, "b", top, bottom)) for _ in range(count)]


def some_heap(dice, count, top=4, bottom=1, tries=60):
    """Rows of a world of which no two are over, walls neither; with whole places many of them touch."""
    rows = []
    while len(rows) < count and tries > 0:
        tries -= 1
        row = some_row(dice, LETTERS[len(rows)], top, bottom)
        if not any(are_over(row, other) for other in rows):
            rows.append(row)
    return tuple(rows)


def room(size=14):
    """Four walls around a square from 0 to size."""
    return [wall("wa", ((-1, -1), (size, -1), (size, 0), (-1, 0))),
            wall("wb", ((-1, size), (size, size), (size, size + 1), (-1, size + 1))),
            wall("wc", ((-1, 0), (0, 0), (0, size), (-1, size))),
            wall("wd", ((size, 0), (size + 1, 0), (size + 1, size), (size, size)))]


def some_room(dice, count, size=14, railed_too=True):
    """A room's walls, and up to so many bodies within it that go."""
    rows = room(size)
    tries = 200
    while len(rows) < count + 4 and tries > 0:
        tries -= 1
        row = some_row(dice, LETTERS[len(rows) - 4], size, 2)
        near = all(0 <= x <= size and 0 <= y <= size for x, y in corners_of(row))
        if near and (row[3] is None or railed_too) and not any(are_over(row, other) for other in rows):
            rows.append(row)
    return world(*rows)


def wedges(count=12, **more):
    """Up to twelve triangles around one spot, so that each two of them touch."""
    ring = [(4, 0), (4, 1), (3, 3), (1, 4), (0, 4), (-2, 3), (-4, 2), (-4, 0), (-3, -3), (-1, -4), (1, -4), (3, -2)]
    ends = list(zip(ring, ring[1:] + ring[:1]))[:count]
    return tuple(free(name, ((0, 0), start, end), **more) for name, (start, end) in zip(LETTERS, ends))


def with_speeds(rows, speeds):
    """The rows with other speeds, two plain numbers each, by names; STILL where none is told."""
    return tuple(row[:5] + (spot(*speeds.get(row[0], (0, 0))),) for row in rows)


def nested(thing, depth):
    for _ in range(depth):
        thing = (thing,)
    return thing


LONG = 10 ** 999 + 7

ANYTHING = [
    None, True, False, 0, 1, -1, LONG, -LONG, "", "over", "apart", "clear", "meets", "x" * 3000, " \n~", (), [], {},
    ("",), (None,), (True,), (0,), [0], {0: 1}, {"over": (1, 0)}, (1, 0), (0, 1), ((0, 1), (0, 1)), [(0, 1), (0, 1)],
    (1, 2, 3), ("a", "b", (1, 0)), (("a", "b", (1, 0)),), [("a", "b", (1, 0))], {("a", "b"): (1, 0)},
    nested(1, 12), nested((1, 0), 10), [[[[[]]]]], {"a": {"b": {"c": [1, (2, {"d": None})]}}},
    (LONG, LONG - 1), ((LONG, 1), (1, LONG)), tuple(range(9000)), ["abc"] * 3000, ((),) * 3000, ((0, 1),) * 3000,
]


def broken(thing):
    """The thing, made of tuples, texts and whole numbers, with one part at a time of a wrong kind or count."""
    found = []
    if isinstance(thing, tuple):
        found += [list(thing), thing + (None,), thing + thing[-1:], dict(enumerate(thing)), str(thing), (thing,)]
        if thing:
            found.append(thing[:-1])
            found.append(thing[1:])
        for at, part in enumerate(thing):
            found += [thing[:at] + (other,) + thing[at + 1:] for other in broken(part)]
    elif isinstance(thing, str):
        found += [thing + "x", thing[:-1], thing.upper(), " " + thing, (thing,), [thing], None, True, 0]
    else:
        found += [str(thing), None, (thing,), [thing], (thing, 1), {thing: thing}]
        if thing in (0, 1):
            found.append(bool(thing))
    return found


def acts_due(state, span):
    """The acts of a beat and the state behind it, by the words of point 34, without any bound."""
    pull, give, clock, rows = state
    acts, left = [], Fraction(*span)
    if closing(rows, contacts(rows)):
        acts.append(meeting(rows, give))
        rows = met(rows, give, acts[-1])
    kick = spot(*[part * left for part in values(pull)])
    acts.append(pulling(rows, kick))
    rows = pulled(rows, kick, acts[-1])
    while True:
        due = next_time(rows, told(left))
        step = told(left) if due is None else due
        acts.append(("fly", step, flight(rows, step)))
        rows = tuple(moved(row, step) for row in rows)
        clock = told(Fraction(*clock) + Fraction(*step))
        if due is None:
            return tuple(acts), (pull, give, clock, rows)
        left -= Fraction(*step)
        acts.append(meeting(rows, give))
        rows = met(rows, give, acts[-1])


class Refusing:
    """For a test of a world, or of what keeps one: what is refused changes nothing."""

    def assert_refused(self, kind, kept, call, *given, **named):
        """The refusal is just of this kind; its fields are told, to be looked at."""
        ahead = copy.deepcopy((kept.state(), kept.story(), kept.start(), given, named))
        with self.assertRaises(BodyError) as caught:
            call(*given, **named)
        self.assertIs(type(caught.exception), kind)
        self.assertEqual((kept.state(), kept.story(), kept.start(), given, named), ahead)
        return vars(caught.exception)


class Held:
    """For a test of a held: what it tells is True or False itself, and what is handed in isn't changed."""

    def assert_held(self, good, call, *given, **named):
        kept = copy.deepcopy((given, named))
        with self.subTest(repr(given)[:300]):
            self.assertIs(call(*given, **named), good)
            self.assertEqual((given, named), kept)


def answer_of(row, x, y):
    """The change of a body's speed by a push, by point 14, in Fractions."""
    mass, rail = row[2], row[3]
    if mass == 0:
        return (Fraction(0), Fraction(0))
    if rail is None:
        return (Fraction(x) / mass, Fraction(y) / mass)
    p, q = rail
    part = Fraction(p * x + q * y) / (mass * (p * p + q * q))
    return (p * part, q * part)


def speeds_behind(rows, contacts, pushes):
    """The speeds behind pushes, a dict of two Fractions by names; each push by itself, in turn."""
    speeds = {row[0]: values(row[5]) for row in rows}
    by_name = {row[0]: row for row in rows}
    for (low, high, (p, q)), push in zip(contacts, pushes):
        for name, sign in [(low, -1), (high, 1)]:
            x, y = answer_of(by_name[name], sign * p * Fraction(*push), sign * q * Fraction(*push))
            speeds[name] = [speeds[name][0] + x, speeds[name][1] + y]
    return speeds


def partings_of(speeds, contacts):
    return [p * (speeds[high][0] - speeds[low][0]) + q * (speeds[high][1] - speeds[low][1])
            for low, high, (p, q) in contacts]


def do_hold(rows, contacts, pushes):
    """Whether pushes, shares, hold."""
    partings = partings_of(speeds_behind(rows, contacts, pushes), contacts)
    return all(push[0] >= 0 and parting >= 0 and push[0] * parting == 0 for push, parting in zip(pushes, partings))


def some_contacts(dice, rows, count, top=2):
    """Any contacts of a world's rows, places aside."""
    names = [row[0] for row in rows]
    found = []
    while len(found) < count and len(names) > 1:
        low, high = sorted(dice.sample(names, 2))
        way = (dice.randint(-top, top), dice.randint(-top, top))
        if gcd(*way) == 1:
            found.append((low, high, way))
    return tuple(found)
