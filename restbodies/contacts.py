"""Contacts: which bodies touch, along which way, and how fast they part."""

from restbodies.errors import Over
from restbodies.gaps import courses, rate
from restbodies.rows import find_row, pairs
from restbodies.shares import on_one_bottom
from restbodies.spots import is_way, way_of


def sum_way(one, other):
    """The way that points as the sum of two ways does."""
    return way_of(one[0] + other[0], one[1] + other[1])


def touching_way(touching):
    """The way of a contact, by the courses whose gap is nought: one, or two where corners meet."""
    if len(touching) == 1:
        return touching[0][0]
    not_falling = [way for way, start, slope in touching if slope >= 0]
    if len(not_falling) == 1:
        return not_falling[0]
    return sum_way(touching[0][0], touching[1][0])


def pair_contacts(one, other):
    """The contact of two bodies in a list; an empty one where they don't touch."""
    all_courses = courses(one, other)
    greatest = max([start for way, start, slope in all_courses])
    if greatest < 0:
        raise Over(one[0], other[0])
    if greatest > 0:
        return []
    return [(one[0], other[0], touching_way([course for course in all_courses if course[1] == 0]))]


def contacts(rows):
    """(name, name, way) for each two bodies that touch and aren't both walls, in the order of names."""
    found = []
    for one, other in pairs(rows):
        found += pair_contacts(one, other)
    return tuple(found)


def are_contacts(thing, due):
    """Whether a thing, which may be anything, is what contacts told; truths in a way are no numbers."""
    return thing == due and all([is_way(contact[2]) for contact in thing])


def parting(rows, contact):
    """How fast the two of a contact part, a share."""
    low, high, way = contact
    return rate(find_row(rows, low), find_row(rows, high), way)


def speeds_of(rows):
    """Each speed as two whole numbers, a dict by names, and the bottom of them all."""
    tops, bottom = on_one_bottom([part for row in rows for part in row[5]])
    return ({row[0]: (tops[2 * at], tops[2 * at + 1]) for at, row in enumerate(rows)}, bottom)


def partings(contacts, speeds):
    """How fast the two of each contact part, a list of whole numbers, by what speeds_of tells."""
    told = []
    for low, high, (p, q) in contacts:
        x, y = speeds[low]
        u, v = speeds[high]
        told.append(p * (u - x) + q * (v - y))
    return told


def closing(rows, contacts):
    """Whether some contact's parting is below nought."""
    speeds, bottom = speeds_of(rows)
    return any([top < 0 for top in partings(contacts, speeds)])
