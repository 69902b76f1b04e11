"""A desk: a world that is told by lines, and answers in lines."""

from restbodies.bounds import LINES
from restbodies.errors import BadLine, BadSpan, Long
from restbodies.lines import read_body, read_number, read_spot, read_whole, words_of
from restbodies.rows import find_row
from restbodies.shares import NOUGHT, order, share_text
from restbodies.spots import STILL
from restbodies.standing import standing
from restbodies.texts import state_text
from restbodies.times import first
from restbodies.worlds import World


def look_count(words, counts):
    if len(words) not in counts:
        raise BadLine("too few or too many words")


def say_body(world, words):
    entry = world.add(read_body(words))
    return f"added {entry[1][0]}"


def say_take(world, words):
    look_count(words, (2,))
    world.take(words[1])
    return f"taken {words[1]}"


def say_shove(world, words):
    look_count(words, (4,))
    world.shove(words[1], read_spot(words[2:]))
    return f"shoved {words[1]}"


def say_turn(world, words):
    look_count(words, (1,))
    world.turn()
    return "turned"


def say_beat(world, words):
    look_count(words, (2, 3))
    span = read_number(words[1])
    if len(words) == 3:
        world.beat(span, most=read_whole(words[2]))
    else:
        world.beat(span)
    return f"clock {share_text(world.state()[2])}"


def say_back(world, words):
    look_count(words, (1,))
    return f"back {world.back()[0]}"


def say_show(world, words):
    look_count(words, (1,))
    return state_text(world.state())


def say_stand(world, words):
    look_count(words, (1,))
    pull, give, clock, rows = world.state()
    return standing(rows, pull)[0]


def say_first(world, words):
    look_count(words, (4,))
    word, name, other, told = words
    span = read_number(told)
    if name == other:
        raise BadLine("one name twice")
    rows = world.state()[3]
    one = find_row(rows, name)
    two = find_row(rows, other)
    if order(span, NOUGHT) < 0:
        raise BadSpan("a span below nought")
    paper = first(one, two, span)
    return f"meets {share_text(paper[1])}" if paper[0] == "meets" else "clear"


ANSWERS = {
    "wall": say_body, "free": say_body, "rail": say_body, "take": say_take, "shove": say_shove, "turn": say_turn,
    "beat": say_beat, "back": say_back, "show": say_show, "stand": say_stand, "first": say_first,
}


def answer_line(world, line):
    words = words_of(line)
    if words[0] not in ANSWERS:
        raise BadLine("no line that a desk knows")
    action = ANSWERS[words[0]]
    return action(world, words)


class Desk:
    """A world that is told by lines; of each line both ends are kept."""

    def __init__(self, *, pull=STILL, give=NOUGHT):
        self.world = World(pull=pull, give=give)
        self.ends = []

    def said(self, line):
        """The answer to a line."""
        if len(self.ends) >= 2 * LINES:
            raise Long("too many lines")
        self.ends.append(("in", line))
        good = False
        try:
            told = answer_line(self.world, line)
            good = True
            return told
        finally:
            self.ends.append(("out", line, good))

    def entries(self):
        return list(self.ends)

    def state(self):
        return self.world.state()
