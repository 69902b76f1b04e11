"""The refusals, each a class of its own under BodyError.

A message names no share that is handed in: one may be longer than Python writes as a text.
"""


class BodyError(ValueError):
    """Any refusal."""


class NoShare(BodyError):
    """What is asked for is no share."""


class NoWay(BodyError):
    """Two noughts point no way."""


class BadShape(BodyError):
    """A thing is no shape."""


class BadRow(BodyError):
    """A thing is no row; part names the first thing that is wrong."""

    def __init__(self, part):
        super().__init__(f"this part of the row is wrong: {part}")
        self.part = part


class Over(BodyError):
    """Two bodies are over one another."""

    def __init__(self, one, other):
        super().__init__(f"two bodies are over one another: {one}, {other}")
        self.one = one
        self.other = other


class Early(BodyError):
    """Two bodies meet ahead of the time that is asked for."""

    def __init__(self, time):
        super().__init__("two bodies meet too early")
        self.time = time


class Calm(BodyError):
    """No contact closes, so there is no meeting."""


class NoBody(BodyError):
    """No body is called so."""


class Twice(BodyError):
    """Two bodies have one name."""

    def __init__(self, name):
        super().__init__(f"two bodies are called {name}")
        self.name = name


class Full(BodyError):
    """There are too many bodies."""


class Long(BodyError):
    """There are too many deeds or lines."""


class BadPush(BodyError):
    """A thing is no push."""


class BadSpan(BodyError):
    """A thing is no span of time."""


class BadCount(BodyError):
    """A thing is no count of meetings."""


class BadState(BodyError):
    """A thing is no state."""


class Crowded(BodyError):
    """A beat has too many meetings; clock is when one too many is due."""

    def __init__(self, clock):
        super().__init__("the beat has too many meetings")
        self.clock = clock


class TooFine(BodyError):
    """A number would have too many figures."""


class Nothing(BodyError):
    """There is no deed to take back."""


class Wrong(BodyError):
    """A story or a list of deeds isn't right at an entry."""

    def __init__(self, deed, act):
        super().__init__(f"wrong at deed {deed}, act {act}")
        self.deed = deed
        self.act = act


class BadText(BodyError):
    """A line of a text isn't made as a state's line is."""

    def __init__(self, line):
        super().__init__(f"this line of the text is wrong: {line}")
        self.line = line


class BadLine(BodyError):
    """A line says nothing that a desk knows."""
