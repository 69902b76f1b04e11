"""Finding pushes that hold, in the way of point 25.

It is reckoned in whole numbers. A table says how each contact's parting (a line) answers to each
contact's push (a column); each line, and the parting with it, is times a factor of its own, so that it is
whole. The held contacts never hang on one another: one more is held only where its parting is below
nought while theirs are nought. So they are at most two for each body, however many contacts there are.
"""

from restbodies.bodies import body_of
from restbodies.contacts import partings, speeds_of
from restbodies.holding import Holding, dot
from restbodies.shares import NOUGHT, WHOLE, on_one_bottom, share
from restbodies.wholes import common_divisor


def mobility(row):
    """How a body answers to pushes: whole numbers xx, xy, yy in a list, and their bottom."""
    body = body_of(row)
    rightwards = body.answer((WHOLE, NOUGHT))
    upwards = body.answer((NOUGHT, WHOLE))
    return on_one_bottom([rightwards[0], rightwards[1], upwards[1]])


def factors_of(contacts, mobilities):
    """For each contact a whole number by which its line of the table is whole."""
    factors = []
    for low, high, way in contacts:
        one = mobilities[low][1]
        other = mobilities[high][1]
        factors.append(one // common_divisor(one, other) * other)
    return factors


def shoves(contact):
    """What a push of one is to each of a contact's two bodies, a dict by names."""
    low, high, (p, q) = contact
    return {low: (-p, -q), high: (p, q)}


def answers(contact, factor, mobilities):
    """How a contact's two bodies answer to its push of one, times the factor, a dict by names."""
    told = {}
    for name, (p, q) in shoves(contact).items():
        (xx, xy, yy), bottom = mobilities[name]
        scale = factor // bottom
        told[name] = (scale * (xx * p + xy * q), scale * (xy * p + yy * q))
    return told


def product(one, other):
    """The sum of the products of what two dicts have by the same names."""
    return sum([dot(one[name], other[name]) for name in one if name in other])


def table_of(contacts, factors, mobilities):
    lines = [answers(contact, factor, mobilities) for contact, factor in zip(contacts, factors)]
    columns = [shoves(contact) for contact in contacts]
    return [[product(line, column) for column in columns] for line in lines]


def partings_behind(start, holding, tops):
    """The partings behind the held ones' pushes, all times the determinant."""
    behind = []
    for value, line in zip(start, holding.table):
        behind.append(value * holding.determinant + dot([line[at] for at in holding.held], tops))
    return behind


def worst_of(tops, weights):
    """The contact that closes most, by the square of its parting over its weight; None where none closes.

    By so much moving(..) would fall if it alone were held. To take any that closes would do as well, but
    this comes home in fewer steps.
    """
    worst = None
    for at, top in enumerate(tops):
        if top < 0:
            if worst is None or top * top * weights[worst] > tops[worst] * tops[worst] * weights[at]:
                worst = at
    return worst


def first_spent(tops, due):
    """The place of the push that comes to nought first on the way from the old ones to those that are due."""
    spent = None
    for place, (top, aim) in enumerate(zip(tops, due)):
        if aim <= 0 and (spent is None or aim * tops[spent] < due[spent] * top):
            spent = place
    return spent


def settled(holding, tops, aims):
    """The held ones' pushes by which their partings are nought, over the determinant, all above nought.

    Those that come to nought on the way from the old pushes are let go. The old ones' bottom isn't needed:
    which come to nought first, and where the others are then to one another, doesn't hang on it.
    """
    due = holding.solved(aims)
    while min(due) <= 0:
        place = first_spent(tops, due)
        top = tops[place]
        aim = due[place]
        tops = [top * far - near * aim for near, far in zip(tops, due)]
        for at in reversed(range(len(tops))):
            if tops[at] == 0:
                holding.let_go(at)
        tops = [each for each in tops if each > 0]
        due = holding.solved(aims)
    return due


def hold_until_none_closes(holding, start, weights):
    """Holds and lets go contacts until none closes; tells the held ones' pushes, over the determinant."""
    aims = [-value for value in start]
    tops = []
    worst = worst_of(start, weights)
    while worst is not None:
        holding.hold(worst)
        tops = settled(holding, tops + [0], aims)
        worst = worst_of(partings_behind(start, holding, tops), weights)
    return tops


def find_pushes(rows, contacts):
    """Pushes that hold, a tuple of as many shares as there are contacts."""
    mobilities = {row[0]: mobility(row) for row in rows}
    factors = factors_of(contacts, mobilities)
    table = table_of(contacts, factors, mobilities)
    speeds, bottom = speeds_of(rows)
    start = [factor * top for factor, top in zip(factors, partings(contacts, speeds))]
    weights = [factor * table[at][at] for at, factor in enumerate(factors)]
    holding = Holding(table)
    tops = hold_until_none_closes(holding, start, weights)
    told = {at: share(top, holding.determinant * bottom) for at, top in zip(holding.held, tops)}
    return tuple([told.get(at, NOUGHT) for at in range(len(contacts))])
