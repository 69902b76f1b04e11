"""Bodies: their rows (name, shape, mass, rail, place, speed), and an object for each kind."""

from restbodies.bounds import MASS
from restbodies.errors import BadRow, BadShape
from restbodies.shapes import look_shape
from restbodies.shares import NOUGHT, over, share_text, times
from restbodies.spots import STILL, across, along, is_short_spot, is_way, spot_times
from restbodies.wholes import in_reach, is_whole

LETTERS = "abcdefghijklmnopqrstuvwxyz"
LONGEST = 12


def is_name(thing):
    if not isinstance(thing, str) or not 1 <= len(thing) <= LONGEST:
        return False
    return all([sign in LETTERS for sign in thing])


def shape_of(corners):
    try:
        return look_shape(corners)
    except BadShape:
        raise BadRow("corners") from None


def is_mass(thing, lightest):
    return is_whole(thing) and lightest <= thing <= MASS


def may_have_rail(thing, mass, due):
    """Whether a body of this mass may have the thing for its rail; due where there must be one."""
    if thing is None:
        return not due
    return mass > 0 and is_way(thing) and in_reach(thing[0]) and in_reach(thing[1])


def row_of(thing, lightest, due):
    """The row of a thing, which may be anything, of a mass from lightest on, with a rail where one is due."""
    if not isinstance(thing, tuple) or len(thing) != 6:
        raise BadRow("form")
    name, corners, mass, rail, place, speed = thing
    if not is_name(name):
        raise BadRow("name")
    shape = shape_of(corners)
    if not is_mass(mass, lightest):
        raise BadRow("mass")
    if not may_have_rail(rail, mass, due):
        raise BadRow("rail")
    if not is_short_spot(place):
        raise BadRow("place")
    row = (name, shape, mass, rail, place, speed)
    if not is_short_spot(speed) or not body_of(row).may(speed):
        raise BadRow("speed")
    return row


def look_row(thing):
    """The row of a thing, which may be anything, its shape in the one form."""
    return row_of(thing, 0, False)


def wall(name, corners, *, at=STILL):
    return row_of((name, corners, 0, None, at, STILL), 0, False)


def free(name, corners, *, mass=1, at=STILL, speed=STILL):
    return row_of((name, corners, mass, None, at, speed), 1, False)


def railed(name, corners, *, rail, mass=1, at=STILL, speed=STILL):
    return row_of((name, corners, mass, rail, at, speed), 1, True)


def onto_rail(rail, spot, mass):
    """The rail times along(rail, spot) over (mass times the rail's square)."""
    p, q = rail
    part = over(along(rail, spot), (mass * (p * p + q * q), 1))
    return (times((p, 1), part), times((q, 1), part))


def spot_words(spot):
    return [share_text(part) for part in spot]


def corner_words(shape):
    return [f"{x},{y}" for x, y in shape]


def wall_words(row):
    name, shape, mass, rail, place, speed = row
    return ["wall", name] + spot_words(place) + corner_words(shape)


def free_words(row):
    name, shape, mass, rail, place, speed = row
    return ["free", name, str(mass)] + spot_words(place) + spot_words(speed) + corner_words(shape)


def rail_words(row):
    name, shape, mass, rail, place, speed = row
    ahead = ["rail", name, str(mass), str(rail[0]), str(rail[1])]
    return ahead + spot_words(place) + spot_words(speed) + corner_words(shape)


class Body:
    """A body of any kind; only those of the kinds below are made."""

    def __init__(self, row):
        self.row = row
        self.name = row[0]
        self.mass = row[2]

    def answer(self, push):
        raise NotImplementedError("each kind of body answers in its own way")

    def kick(self, pull):
        raise NotImplementedError("each kind of body is pulled in its own way")

    def may(self, speed):
        raise NotImplementedError("each kind of body has speeds of its own")

    def __eq__(self, other):
        return isinstance(other, Body) and self.row == other.row


class Wall(Body):
    """A body that stands still."""

    def answer(self, push):
        return STILL

    def kick(self, pull):
        return STILL

    def may(self, speed):
        return speed == STILL

    def __str__(self):
        return " ".join(wall_words(self.row))


class Free(Body):
    """A body that goes anywhere."""

    def answer(self, push):
        return spot_times(push, (1, self.mass))

    def kick(self, pull):
        return pull

    def may(self, speed):
        return True

    def __str__(self):
        return " ".join(free_words(self.row))


class Railed(Body):
    """A body that goes along its rail."""

    def answer(self, push):
        return onto_rail(self.row[3], push, self.mass)

    def kick(self, pull):
        return onto_rail(self.row[3], pull, 1)

    def may(self, speed):
        return across(self.row[3], speed) == NOUGHT

    def __str__(self):
        return " ".join(rail_words(self.row))


def body_of(row):
    """The object of a row, by its kind."""
    name, shape, mass, rail, place, speed = row
    if mass == 0:
        return Wall(row)
    if rail is None:
        return Free(row)
    return Railed(row)
