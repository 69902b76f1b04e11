"""Rows that move and change their speed, and rows of a world by their names."""

from restbodies.errors import NoBody
from restbodies.spots import spot_plus, spot_times


def moved(row, span):
    """The row at its place plus span times its speed."""
    name, shape, mass, rail, place, speed = row
    return (name, shape, mass, rail, spot_plus(place, spot_times(speed, span)), speed)


def with_speed(row, speed):
    """The row with another speed."""
    name, shape, mass, rail, place, old = row
    return (name, shape, mass, rail, place, speed)


def sped(row, change):
    """The row with its speed plus the change."""
    return with_speed(row, spot_plus(row[5], change))


def find_row(rows, name):
    """The row of a name, which may be anything."""
    for row in rows:
        if row[0] == name:
            return row
    raise NoBody("no body is called so")


def pairs(rows):
    """Each two bodies that aren't both walls, as a list of (row, row) in the order of names."""
    found = []
    for at, one in enumerate(rows):
        found += [(one, other) for other in rows[at + 1:] if one[2] > 0 or other[2] > 0]
    return found
