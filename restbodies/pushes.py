"""Pushes: what they make of the speeds, and whether they hold."""

from restbodies.bodies import body_of
from restbodies.contacts import partings, speeds_of
from restbodies.rows import sped
from restbodies.shares import NOUGHT, is_share, on_one_bottom, order, plus, share, times
from restbodies.spots import STILL, spot_plus, spot_times


def push_sum(parts):
    """The sum of pushes at one body, of (p, q, push) each.

    It is reckoned over one bottom: only the sum need be brought to lowest terms.
    """
    tops, bottom = on_one_bottom([push for p, q, push in parts])
    x = sum([p * top for (p, q, push), top in zip(parts, tops)])
    y = sum([q * top for (p, q, push), top in zip(parts, tops)])
    return (share(x, bottom), share(y, bottom))


def push_sums(rows, contacts, pushes):
    """The sum of all pushes at each body, a dict by names."""
    parts = {row[0]: [] for row in rows}
    for (low, high, (p, q)), push in zip(contacts, pushes):
        parts[low].append((-p, -q, push))
        parts[high].append((p, q, push))
    return {name: push_sum(each) for name, each in parts.items()}


def pushed(rows, contacts, pushes):
    """The rows with each speed changed by the body's answers to all its pushes."""
    sums = push_sums(rows, contacts, pushes)
    return tuple([sped(row, body_of(row).answer(sums[row[0]])) for row in rows])


def kicked(rows, pull):
    """The rows with each speed changed by the body's own change by a pull."""
    return tuple([sped(row, body_of(row).kick(pull)) for row in rows])


def is_push(thing):
    """Whether a thing, which may be anything, is a share from nought on."""
    return is_share(thing) and order(thing, NOUGHT) >= 0


def are_pushes(thing, contacts):
    """Whether a thing, which may be anything, is a tuple of a push not below nought for each contact."""
    if not isinstance(thing, tuple) or len(thing) != len(contacts):
        return False
    return all([is_push(push) for push in thing])


def pushes_held(rows, contacts, pushes):
    """Whether the pushes, which may be anything, are as many shares as there are contacts, and hold."""
    if not are_pushes(pushes, contacts):
        return False
    speeds, bottom = speeds_of(pushed(rows, contacts, pushes))
    for push, top in zip(pushes, partings(contacts, speeds)):
        if top < 0 or (top > 0 and push != NOUGHT):
            return False
    return True


def square(spot):
    x, y = spot
    return plus(times(x, x), times(y, y))


def moving(rows):
    """The sum of mass times the speed's square, a share."""
    total = NOUGHT
    for row in rows:
        total = plus(total, times((row[2], 1), square(row[5])))
    return total


def moment(rows):
    """The sum of mass times speed, a spot."""
    total = STILL
    for row in rows:
        total = spot_plus(total, spot_times(row[5], (row[2], 1)))
    return total
