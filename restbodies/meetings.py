"""Meetings, in which bodies that touch and close push one another, and pulls by a kick."""

from restbodies.contacts import are_contacts, closing, contacts
from restbodies.errors import Calm, Early
from restbodies.pushes import kicked, pushed, pushes_held
from restbodies.rows import sped
from restbodies.shares import NOUGHT
from restbodies.solving import find_pushes
from restbodies.spots import spot_minus, spot_times


def given_back(rows, behind, give):
    """The rows behind the first pushes, each speed with give times what these changed once more."""
    told = []
    for old, new in zip(rows, behind):
        told.append(sped(new, spot_times(spot_minus(new[5], old[5]), give)))
    return tuple(told)


def behind_give(rows, give, touching, pushes):
    """The rows behind the first pushes and give, ahead of the pushes more."""
    return given_back(rows, pushed(rows, touching, pushes), give)


def meeting(rows, give):
    """A meeting of the rows: ("meet", contacts, pushes, more)."""
    touching = contacts(rows)
    if not closing(rows, touching):
        raise Calm("no contact closes")
    pushes = find_pushes(rows, touching)
    more = find_pushes(behind_give(rows, give, touching, pushes), touching)
    return ("meet", touching, pushes, more)


def met(rows, give, act):
    """The rows behind a meeting that holds of them."""
    word, touching, pushes, more = act
    return pushed(behind_give(rows, give, touching, pushes), touching, more)


def meeting_held(rows, give, act):
    """Whether the act, which may be anything, is a meeting of the rows."""
    touching = contacts(rows)
    if not isinstance(act, tuple) or len(act) != 4:
        return False
    word, told, pushes, more = act
    if word != "meet" or not are_contacts(told, touching) or not closing(rows, touching):
        return False
    if not pushes_held(rows, touching, pushes):
        return False
    return pushes_held(behind_give(rows, give, touching, pushes), touching, more)


def pulling(rows, kick):
    """A pull of the rows by a kick: ("pull", contacts, pushes)."""
    touching = contacts(rows)
    if closing(rows, touching):
        raise Early(NOUGHT)
    return ("pull", touching, find_pushes(kicked(rows, kick), touching))


def pulled(rows, kick, act):
    """The rows behind a pull that holds of them."""
    word, touching, pushes = act
    return pushed(kicked(rows, kick), touching, pushes)


def pull_held(rows, kick, act):
    """Whether the act, which may be anything, is a pull of the rows by the kick."""
    touching = contacts(rows)
    if not isinstance(act, tuple) or len(act) != 3:
        return False
    word, told, pushes = act
    if word != "pull" or not are_contacts(told, touching) or closing(rows, touching):
        return False
    return pushes_held(kicked(rows, kick), touching, pushes)
