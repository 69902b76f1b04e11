"""The auditor: walks a story from a state and asks of each entry whether it is right.

It seeks no times, ways or pushes, and reckons only with those that the story tells.
"""

from restbodies.changes import all_moved, all_turned, look_new, shoved, with_row, without_row
from restbodies.errors import BadPush, BadRow, Full, NoBody, Over, Twice, Wrong
from restbodies.flights import flight_held
from restbodies.forms import has_form
from restbodies.meetings import meeting_held, met, pull_held, pulled
from restbodies.shares import NOUGHT, is_share, order, plus
from restbodies.spots import is_spot, spot_times
from restbodies.states import look_state


def is_above_nought(thing):
    """Whether a thing, which may be anything, is a share above nought."""
    return is_share(thing) and order(thing, NOUGHT) > 0


class Walk:
    """The way through one beat's acts: where it is, how much time has gone by, and the rows then."""

    def __init__(self, deed, acts, rows):
        self.deed = deed
        self.acts = acts
        self.at = 0
        self.gone = NOUGHT
        self.rows = rows

    def ask(self, good):
        """Refuses the act here where something isn't good."""
        if not good:
            raise Wrong(self.deed, self.at)

    def due_act(self):
        """The act that is due here; there must be one."""
        self.ask(self.at < len(self.acts))
        return self.acts[self.at]

    def pass_to(self, rows):
        self.rows = rows
        self.at += 1

    def meet(self, give):
        act = self.due_act()
        self.ask(meeting_held(self.rows, give, act))
        self.pass_to(met(self.rows, give, act))

    def meet_if_told(self, give):
        """A meeting, or none: what isn't one is left here for the pull."""
        act = self.due_act()
        if meeting_held(self.rows, give, act):
            self.pass_to(met(self.rows, give, act))

    def draw(self, kick):
        act = self.due_act()
        self.ask(pull_held(self.rows, kick, act))
        self.pass_to(pulled(self.rows, kick, act))

    def fly(self, span):
        """A flight that doesn't pass the beat's span."""
        act = self.due_act()
        self.ask(is_flight(self.rows, act))
        self.gone = plus(self.gone, act[1])
        self.ask(order(self.gone, span) <= 0)
        self.pass_to(all_moved(self.rows, act[1]))


def is_flight(rows, act):
    """Whether an act, which may be anything, is a flight of the rows."""
    if not isinstance(act, tuple) or len(act) != 3:
        return False
    word, span, papers = act
    return word == "fly" and is_above_nought(span) and flight_held(rows, span, papers)


def walk_beat(deed, state, span, acts):
    """The state behind a beat."""
    pull, give, clock, rows = state
    if not is_above_nought(span) or not isinstance(acts, tuple):
        raise Wrong(deed, None)
    walk = Walk(deed, acts, rows)
    walk.meet_if_told(give)
    walk.draw(spot_times(pull, span))
    walk.fly(span)
    while walk.gone != span:
        walk.meet(give)
        walk.fly(span)
    walk.ask(walk.at == len(acts))
    return (pull, give, plus(clock, span), walk.rows)


def audit_add(rows, thing):
    """The rows with one more, which must be told just as look_row tells it."""
    new = look_new(rows, thing)
    if new != thing:
        raise BadRow("corners")
    return with_row(rows, new)


def audit_shove(rows, name, push):
    if not is_spot(push):
        raise BadPush("no push")
    return shoved(rows, name, push)


def audit_rows(rows, entry):
    """The rows behind an entry that is no beat; refused in several ways where it isn't right."""
    word = entry[0]
    if word == "add":
        return audit_add(rows, entry[1])
    if word == "take":
        return without_row(rows, entry[1])
    if word == "shove":
        return audit_shove(rows, entry[1], entry[2])
    return all_turned(rows)


def walk_entry(deed, state, entry):
    """The state behind an entry, which may be anything."""
    if not has_form(entry, 3):
        raise Wrong(deed, None)
    if entry[0] == "beat":
        return walk_beat(deed, state, entry[1], entry[2])
    pull, give, clock, rows = state
    try:
        return (pull, give, clock, audit_rows(rows, entry))
    except (BadRow, Twice, Full, Over, NoBody, BadPush):
        raise Wrong(deed, None) from None


def audit(state, story):
    """The state behind a story, which may be anything, from a state."""
    now = look_state(state)
    if not isinstance(story, list):
        raise Wrong(0, None)
    for deed, entry in enumerate(story):
        now = walk_entry(deed, now, entry)
    return now
