"""States, tuples (pull, give, clock, rows): what a world is at an instant."""

from restbodies.apart import are_over
from restbodies.bodies import look_row
from restbodies.bounds import BODIES
from restbodies.errors import BadState, Full, Over, Twice
from restbodies.shares import NOUGHT, WHOLE, is_short_share, order
from restbodies.spots import is_short_spot


def is_give(thing):
    """Whether a thing, which may be anything, is a give as a state has it."""
    return is_short_share(thing) and order(thing, NOUGHT) >= 0 and order(thing, WHOLE) <= 0


def is_clock(thing):
    """Whether a thing, which may be anything, is a clock as a state has it."""
    return is_short_share(thing) and order(thing, NOUGHT) >= 0


def look_head(pull, give, clock):
    """Refuses what isn't a pull, a give or a clock of a state."""
    if not is_short_spot(pull):
        raise BadState("a pull that is none")
    if not is_give(give):
        raise BadState("a give that is none")
    if not is_clock(clock):
        raise BadState("a clock that is none")


def look_names(rows):
    """Refuses the first row whose name an earlier one has."""
    seen = {}
    for row in rows:
        if row[0] in seen:
            raise Twice(row[0])
        seen[row[0]] = True


def look_places(rows):
    """Refuses the first two by names, of rows in the order of names, that are over one another."""
    for at, one in enumerate(rows):
        for other in rows[at + 1:]:
            if are_over(one, other):
                raise Over(one[0], other[0])


def look_rows(things):
    """The rows of a list or tuple of anything, a tuple in the order of names."""
    rows = [look_row(thing) for thing in things]
    look_names(rows)
    if len(rows) > BODIES:
        raise Full("too many bodies")
    told = tuple(sorted(rows, key=lambda row: row[0]))
    look_places(told)
    return told


def look_state(thing):
    """The state of a thing, which may be anything, its rows in the one form and in the order of names."""
    if not isinstance(thing, tuple) or len(thing) != 4:
        raise BadState("no tuple of four")
    pull, give, clock, rows = thing
    look_head(pull, give, clock)
    if not isinstance(rows, (list, tuple)):
        raise BadState("rows that are no list or tuple")
    return (pull, give, clock, look_rows(rows))
