"""What deeds make of a world's rows."""

from restbodies.apart import are_over
from restbodies.bodies import body_of, look_row
from restbodies.bounds import BODIES
from restbodies.errors import Full, Over, Twice
from restbodies.rows import find_row, moved, sped, with_speed
from restbodies.spots import spot_times
from restbodies.wholes import is_short


def look_new(rows, thing):
    """The row of a thing, which may be anything, that may come in beside the rows."""
    new = look_row(thing)
    if any([row[0] == new[0] for row in rows]):
        raise Twice(new[0])
    if len(rows) >= BODIES:
        raise Full("too many bodies")
    for row in rows:
        if are_over(row, new):
            low, high = sorted([row[0], new[0]])
            raise Over(low, high)
    return new


def with_row(rows, new):
    return tuple(sorted(list(rows) + [new], key=lambda row: row[0]))


def without_row(rows, name):
    gone = find_row(rows, name)
    return tuple([row for row in rows if row[0] != gone[0]])


def shoved(rows, name, push):
    """The rows with the speed of one body changed by its answer to a push."""
    found = find_row(rows, name)
    new = sped(found, body_of(found).answer(push))
    return tuple([new if row[0] == new[0] else row for row in rows])


def all_turned(rows):
    """The rows with each speed turned round."""
    return tuple([with_speed(row, spot_times(row[5], (-1, 1))) for row in rows])


def all_moved(rows, span):
    return tuple([moved(row, span) for row in rows])


def are_fine(rows, clock):
    """Whether no number of a place, a speed or the clock has more than FIGURES figures."""
    parts = [clock] + [part for row in rows for spot in row[4:] for part in spot]
    return all([is_short(number) for part in parts for number in part])
