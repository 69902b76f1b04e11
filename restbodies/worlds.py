"""Worlds: a state, the deeds that change it, and their story."""

from restbodies.beats import beaten
from restbodies.bounds import DEEDS, MEETINGS
from restbodies.changes import all_turned, are_fine, look_new, shoved, with_row, without_row
from restbodies.errors import BadCount, BadPush, BadSpan, Long, Nothing, TooFine, Wrong
from restbodies.forms import has_form
from restbodies.rows import find_row
from restbodies.shares import NOUGHT, WHOLE, is_short_share, order
from restbodies.spots import STILL, is_short_spot
from restbodies.states import look_head, look_state
from restbodies.texts import state_text
from restbodies.wholes import is_whole


def with_rows(state, rows):
    pull, give, clock, old = state
    return (pull, give, clock, rows)


def is_span(thing):
    """Whether a thing, which may be anything, is a span of a beat."""
    return is_short_share(thing) and order(thing, NOUGHT) > 0


def is_count(thing):
    """Whether a thing, which may be anything, is a count of meetings."""
    return is_whole(thing) and 0 <= thing <= MEETINGS


class World:
    """A world of bodies. Each deed tells its entry of the story, and changes nothing where it is refused."""

    def __init__(self, *, pull=STILL, give=NOUGHT):
        look_head(pull, give, NOUGHT)
        self.begun = (pull, give, NOUGHT, ())
        self.now = self.begun
        self.past = []

    def look_room(self):
        """Refuses one more deed where there are as many as may be."""
        if len(self.past) >= DEEDS:
            raise Long("too many deeds")

    def go_on(self, entry, state):
        """Keeps a deed, and the state ahead of it for back()."""
        self.past.append((entry, self.now))
        self.now = state
        return entry

    def add(self, row):
        self.look_room()
        rows = self.now[3]
        new = look_new(rows, row)
        return self.go_on(("add", new), with_rows(self.now, with_row(rows, new)))

    def take(self, name):
        self.look_room()
        return self.go_on(("take", name), with_rows(self.now, without_row(self.now[3], name)))

    def shove(self, name, push):
        self.look_room()
        pull, give, clock, rows = self.now
        find_row(rows, name)
        if not is_short_spot(push):
            raise BadPush("no push")
        behind = shoved(rows, name, push)
        if not are_fine(behind, clock):
            raise TooFine("a number would have too many figures")
        return self.go_on(("shove", name, push), with_rows(self.now, behind))

    def turn(self):
        self.look_room()
        return self.go_on(("turn",), with_rows(self.now, all_turned(self.now[3])))

    def beat(self, span=WHOLE, *, most=MEETINGS):
        self.look_room()
        if not is_span(span):
            raise BadSpan("no span of a beat")
        if not is_count(most):
            raise BadCount("no count of meetings")
        state, acts = beaten(self.now, span, most)
        return self.go_on(("beat", span, acts), state)

    def back(self):
        """Takes the last deed back, and tells its entry."""
        if len(self.past) == 0:
            raise Nothing("no deed to take back")
        entry, state = self.past.pop()
        self.now = state
        return entry

    def story(self):
        return [entry for entry, state in self.past]

    def state(self):
        return self.now

    def start(self):
        return self.begun

    def __len__(self):
        return len(self.past)

    def __eq__(self, other):
        return isinstance(other, World) and self.now == other.now

    def __str__(self):
        return str(state_text(self.now))


def world_of(state):
    """A world that starts with a state, which may be anything."""
    begun = look_state(state)
    world = World(pull=begun[0], give=begun[1])
    world.begun = begun
    world.now = begun
    return world


def deeds(story):
    """The entries of a story, of a beat ("beat", span) alone."""
    return [entry[:2] if entry[0] == "beat" else entry for entry in story]


def do_deed(world, entry):
    """Does the deed of an entry that has its form."""
    word = entry[0]
    if word == "add":
        world.add(entry[1])
    elif word == "take":
        world.take(entry[1])
    elif word == "shove":
        world.shove(entry[1], entry[2])
    elif word == "turn":
        world.turn()
    else:
        world.beat(entry[1])


def replay(state, deeds):
    """A world that starts with a state, behind a list of deeds, each of which may be anything."""
    world = world_of(state)
    for number, entry in enumerate(deeds):
        if not has_form(entry, 2):
            raise Wrong(number, None)
        do_deed(world, entry)
    return world
