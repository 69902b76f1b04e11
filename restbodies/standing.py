"""Whether a heap stands under a pull, and papers of it.

The speeds behind a pull are those, of all speeds by which no contact closes, that are nearest to the bare
kick, squares of differences weighed by masses. So where they aren't STILL, the pull works along them: the
sum of mass times (pull . speed) is moving(..) of them, and they are the paper of how the heap parts.
"""

from restbodies.bodies import body_of
from restbodies.contacts import are_contacts, closing, contacts
from restbodies.pushes import are_pushes, kicked, pushed
from restbodies.rows import with_speed
from restbodies.shares import NOUGHT, order, plus, times
from restbodies.solving import find_pushes
from restbodies.spots import STILL, is_spot


def stilled(rows):
    return tuple([with_speed(row, STILL) for row in rows])


def are_still(rows):
    return all([row[5] == STILL for row in rows])


def loose(rows):
    """The rows of those that aren't walls."""
    return [row for row in rows if row[2] > 0]


def standing(rows, pull):
    """("stands", contacts, pushes) or ("parts", contacts, speeds) of the bodies, all taken as still."""
    still = stilled(rows)
    touching = contacts(still)
    start = kicked(still, pull)
    pushes = find_pushes(start, touching)
    behind = pushed(start, touching, pushes)
    if are_still(behind):
        return ("stands", touching, pushes)
    return ("parts", touching, tuple([(row[0], row[5]) for row in loose(behind)]))


def do_hold_still(rows, touching, pull, pushes):
    """Whether the pushes, which may be anything, hold the still rows against the pull."""
    return are_pushes(pushes, touching) and are_still(pushed(kicked(rows, pull), touching, pushes))


def is_speed_of(row, entry):
    """Whether the entry, which may be anything, is (name, speed) of the body, with a speed that it may have."""
    if not isinstance(entry, tuple) or len(entry) != 2:
        return False
    name, speed = entry
    return name == row[0] and is_spot(speed) and body_of(row).may(speed)


def are_speeds(thing, rows):
    """Whether a thing, which may be anything, is a tuple of (name, speed) for each body that isn't a wall."""
    due = loose(rows)
    if not isinstance(thing, tuple) or len(thing) != len(due):
        return False
    return all([is_speed_of(row, entry) for row, entry in zip(due, thing)])


def dot_product(one, other):
    return plus(times(one[0], other[0]), times(one[1], other[1]))


def work(rows, pull):
    """The sum of mass times (pull . speed)."""
    total = NOUGHT
    for row in rows:
        total = plus(total, times((row[2], 1), dot_product(pull, row[5])))
    return total


def do_part(rows, touching, pull, speeds):
    """Whether the speeds, which may be anything, part the still rows as the pull would have it."""
    if not are_speeds(speeds, rows):
        return False
    by_name = {name: speed for name, speed in speeds}
    going = tuple([with_speed(row, by_name.get(row[0], STILL)) for row in rows])
    return not closing(going, touching) and order(work(going, pull), NOUGHT) > 0


def standing_held(rows, pull, paper):
    """Whether the paper, which may be anything, says rightly whether the bodies stand."""
    still = stilled(rows)
    touching = contacts(still)
    if not isinstance(paper, tuple) or len(paper) != 3:
        return False
    word, told, parts = paper
    if not are_contacts(told, touching):
        return False
    if word == "stands":
        return do_hold_still(still, touching, pull, parts)
    if word == "parts":
        return do_part(still, touching, pull, parts)
    return False
