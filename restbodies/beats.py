"""Beats: so much time goes by, in acts: meetings, a pull, flights."""

from restbodies.changes import all_moved, are_fine
from restbodies.contacts import closing, contacts
from restbodies.errors import Crowded, TooFine
from restbodies.flights import flight, next_time
from restbodies.meetings import meeting, met, pulled, pulling
from restbodies.shares import minus, plus
from restbodies.spots import spot_times


class Course:
    """A beat in its course: the rows and the clock now, the acts so far, and how many meetings may still come."""

    def __init__(self, state, most):
        pull, give, clock, rows = state
        self.give = give
        self.clock = clock
        self.rows = rows
        self.acts = []
        self.most = most

    def go_on(self, act, rows, clock):
        """What each act leads to; it may be too fine."""
        if not are_fine(rows, clock):
            raise TooFine("a number would have too many figures")
        self.acts.append(act)
        self.rows = rows
        self.clock = clock

    def meet(self):
        if self.most == 0:
            raise Crowded(self.clock)
        self.most -= 1
        act = meeting(self.rows, self.give)
        self.go_on(act, met(self.rows, self.give, act), self.clock)

    def draw(self, kick):
        act = pulling(self.rows, kick)
        self.go_on(act, pulled(self.rows, kick, act), self.clock)

    def fly(self, span):
        act = ("fly", span, flight(self.rows, span))
        self.go_on(act, all_moved(self.rows, span), plus(self.clock, span))


def fly_and_meet(course, span):
    """All flights of a beat, with the meetings between them."""
    left = span
    time = next_time(course.rows, left)
    while time is not None:
        course.fly(time)
        course.meet()
        left = minus(left, time)
        time = next_time(course.rows, left)
    course.fly(left)


def beaten(state, span, most):
    """The state behind a beat of a span with at most so many meetings, and its acts."""
    pull, give, clock, rows = state
    course = Course(state, most)
    if closing(rows, contacts(rows)):
        course.meet()
    course.draw(spot_times(pull, span))
    fly_and_meet(course, span)
    return ((pull, give, course.clock, course.rows), tuple(course.acts))
