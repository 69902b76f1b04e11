"""States as texts, a line for the world and one for each body."""

from restbodies.bodies import body_of
from restbodies.errors import BadLine, BadText
from restbodies.lines import read_body, read_number, read_spot, words_of
from restbodies.shares import share_text
from restbodies.states import look_state


def head_line(pull, give, clock):
    x, y = pull
    return " ".join(["world", share_text(x), share_text(y), share_text(give), share_text(clock)])


def state_text(state):
    pull, give, clock, rows = state
    return "\n".join([head_line(pull, give, clock)] + [str(body_of(row)) for row in rows])


def read_head(words):
    """The pull, the give and the clock that the words of a world's line tell."""
    if len(words) != 5 or words[0] != "world":
        raise BadLine("no world's line")
    return (read_spot(words[1:3]), read_number(words[3]), read_number(words[4]))


def read_line(number, line):
    """What a line of a state's text tells: the world's is the first one, all others are bodies'."""
    if number == 0:
        return read_head(words_of(line))
    return read_body(words_of(line))


def read_lines(lines):
    told = []
    for number, line in enumerate(lines):
        try:
            told.append(read_line(number, line))
        except BadLine:
            raise BadText(number) from None
    return told


def read_state(text):
    """The state of a text, its bodies in any order."""
    told = read_lines(text.split("\n"))
    pull, give, clock = told[0]
    return look_state((pull, give, clock, told[1:]))
