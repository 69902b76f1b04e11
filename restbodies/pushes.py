"""Pushes: what they make of the speeds, and whether they hold."""

from restbodies.bodies import body_of
from restbodies.contacts import parting
from restbodies.rows import sped
from restbodies.shares import NOUGHT, is_share, order, plus, times
from restbodies.spots import STILL, spot_minus, spot_plus, spot_times


def push_spot(way, push):
    p, q = way
    return (times((p, 1), push), times((q, 1), push))


def push_sums(rows, contacts, pushes):
    """The sum of all pushes at each body, a dict by names."""
    sums = {row[0]: STILL for row in rows}
    for (low, high, way), push in zip(contacts, pushes):
        spot = push_spot(way, push)
        sums[low] = spot_minus(sums[low], spot)
        sums[high] = spot_plus(sums[high], spot)
    return sums


def pushed(rows, contacts, pushes):
    """The rows with each speed changed by the body's answers to all its pushes."""
    sums = push_sums(rows, contacts, pushes)
    return tuple([sped(row, body_of(row).answer(sums[row[0]])) for row in rows])


def is_push(thing):
    """Whether a thing, which may be anything, is a share from nought on."""
    return is_share(thing) and order(thing, NOUGHT) >= 0


def pushes_held(rows, contacts, pushes):
    """Whether the pushes, which may be anything, are as many shares as there are contacts, and hold."""
    if not isinstance(pushes, tuple) or len(pushes) != len(contacts):
        return False
    if not all([is_push(push) for push in pushes]):
        return False
    behind = pushed(rows, contacts, pushes)
    for contact, push in zip(contacts, pushes):
        sign = order(parting(behind, contact), NOUGHT)
        if sign < 0 or (sign > 0 and push != NOUGHT):
            return False
    return True


def square(spot):
    x, y = spot
    return plus(times(x, x), times(y, y))


def moving(rows):
    """The sum of mass times the speed's square, a share."""
    total = NOUGHT
    for row in rows:
        total = plus(total, times((row[2], 1), square(row[5])))
    return total


def moment(rows):
    """The sum of mass times speed, a spot."""
    total = STILL
    for row in rows:
        total = spot_plus(total, spot_times(row[5], (row[2], 1)))
    return total
