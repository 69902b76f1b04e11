"""Lines of words: what a body's line tells, and the numbers in it. What isn't so made is refused with BadLine."""

from restbodies.errors import BadLine, NoShare
from restbodies.shares import read_share
from restbodies.spots import STILL


def is_word(text):
    return text != "" and all(["!" <= sign <= "~" for sign in text])


def words_of(line):
    """The words of a line, parted by one blank each."""
    words = line.split(" ")
    if not all([is_word(word) for word in words]):
        raise BadLine("not words parted by one blank each")
    return words


def read_number(word):
    """The share that a word tells."""
    try:
        return read_share(word)
    except NoShare:
        raise BadLine("a word that is no number") from None


def read_whole(word):
    top, bottom = read_number(word)
    if bottom != 1:
        raise BadLine("a word that is no whole number")
    return top


def read_mass(word):
    mass = read_whole(word)
    if mass == 0:
        raise BadLine("a mass of nought")
    return mass


def read_spot(words):
    x, y = words
    return (read_number(x), read_number(y))


def read_corner(word):
    x, comma, y = word.partition(",")
    return (read_whole(x), read_whole(y))


def read_corners(words):
    return [read_corner(word) for word in words]


def read_wall(words):
    name = words[1]
    return (name, read_corners(words[4:]), 0, None, read_spot(words[2:4]), STILL)


def read_free(words):
    name = words[1]
    mass = read_mass(words[2])
    return (name, read_corners(words[7:]), mass, None, read_spot(words[3:5]), read_spot(words[5:7]))


def read_rail(words):
    name = words[1]
    mass = read_mass(words[2])
    rail = (read_whole(words[3]), read_whole(words[4]))
    return (name, read_corners(words[9:]), mass, rail, read_spot(words[5:7]), read_spot(words[7:9]))


# By a body's line's first word: what reads it, and how many words stand ahead of the corners.
READERS = {"wall": read_wall, "free": read_free, "rail": read_rail}
AHEAD = {"wall": 4, "free": 7, "rail": 9}


def read_body(words):
    """What the words of a body's line tell, in the order of a row; look_row hasn't looked at it yet."""
    word = words[0]
    if word not in READERS or len(words) < AHEAD[word]:
        raise BadLine("no body's line")
    reader = READERS[word]
    return reader(words)
