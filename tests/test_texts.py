"""Points 38, 39 and 40."""

import copy
import inspect
import itertools
import random
import unittest

from helpers import BOX, DIAMOND, LETTERS, TRIANGLE, box, some_heap, some_share, spot, world
from restbodies import texts as module
from restbodies.bodies import body_of, railed, wall
from restbodies.errors import BadRow, BadState, BadText, BodyError, Full, Over, Twice
from restbodies.spots import STILL
from restbodies.texts import read_state, state_text

ROWS = world(box("b", -0.5, 3, (0, 7.25), mass=3), wall("floor", ((-9, -1), (9, -1), (9, 0), (-9, 0))),
             railed("r", TRIANGLE, rail=(1, -1), mass=12, at=spot(0, 40), speed=spot(-0.5, 0.5)))
STATE = (spot(0, -1), (1, 2), (7, 3), ROWS)
TEXT = """world 0 -1 1/2 7/3
free b 3 -1/2 3 0 29/4 0,0 2,0 2,2 0,2
wall floor 0 0 -9,-1 9,-1 9,0 -9,0
rail r 12 1 -1 0 40 -1/2 1/2 0,0 3,0 0,2"""
LINES = TEXT.split("\n")
WORLD, FREE, WALL, RAIL = LINES
NINES = "9" * 400
TENS = "1" + "0" * 400


class Texts(unittest.TestCase):

    def test_arguments(self):
        self.assertEqual(str(inspect.signature(module.state_text)), "(state)")
        self.assertEqual(str(inspect.signature(module.read_state)), "(text)")
        self.assertEqual({state_text.__module__, read_state.__module__}, {"restbodies.texts"})

    def test_each_kind_of_body(self):
        self.assertEqual(state_text(STATE), TEXT)
        self.assertEqual(read_state(TEXT), STATE)
        self.assertEqual([str(body_of(row)) for row in ROWS], LINES[1:])

    def test_no_bodies(self):
        state = (STILL, (0, 1), (0, 1), ())
        self.assertEqual(state_text(state), "world 0 0 0 0")
        self.assertEqual(read_state("world 0 0 0 0"), state)

    def test_kinds_of_what_is_told(self):
        told = read_state(TEXT)
        self.assertEqual([type(part) for part in (told, *told)], [tuple] * 5)
        self.assertTrue(all(type(row) is tuple and type(row[1]) is tuple for row in told[3]))

    def test_bodies_in_any_order(self):
        for lines in itertools.permutations(LINES[1:]):
            self.assertEqual(read_state("\n".join((WORLD,) + lines)), STATE)

    def test_corners_from_any_on(self):
        text = "\n".join([WORLD, "wall floor 0 0 9,0 -9,0 -9,-1 9,-1", FREE, RAIL])
        self.assertEqual(read_state(text), STATE)

    def test_long_numbers(self):
        longest = 10 ** 400 - 1
        state = ((STILL[0], (-longest, 1)), (longest - 1, longest), (longest, 2),
                 (("a", BOX, 1000000, None, ((1, longest), (-longest, 1)), ((longest, 4), (0, 1))),))
        self.assertEqual(read_state(state_text(state)), state)

    def test_read_again(self):
        dice = random.Random(120)
        for _ in range(60):
            rows = some_heap(dice, dice.randint(0, 12), 9, 5)
            state = ((some_share(dice), some_share(dice)), dice.choice([(0, 1), (1, 1), (2, 3)]), (dice.randint(0, 9), 1), rows)
            kept = copy.deepcopy(state)
            text = state_text(state)
            self.assertEqual(read_state(text), state)
            self.assertEqual(text.count("\n"), len(rows))
            head, *lines = text.split("\n")
            dice.shuffle(lines)
            self.assertEqual(read_state("\n".join([head] + lines)), state)
            self.assertEqual(state, kept)


class Refusals(unittest.TestCase):

    def assert_refused(self, kind, text, **fields):
        with self.subTest(text[:300]):
            with self.assertRaises(BodyError) as caught:
                read_state(text)
            self.assertIs(type(caught.exception), kind)
            self.assertEqual(vars(caught.exception), fields)

    def assert_bad(self, line, at=1):
        """A line at this place is none; with one more bad one behind it, it is still the first."""
        lines = [line if at == 0 else WORLD, FREE, WALL, RAIL]
        if at > 0:
            lines[at] = line
        self.assert_refused(BadText, "\n".join(lines), line=at)
        self.assert_refused(BadText, "\n".join(lines + ["bad"]), line=at)
        self.assert_refused(BadText, "\n".join(lines[:at + 1]), line=at)

    def test_empty_lines(self):
        self.assert_refused(BadText, "", line=0)
        self.assert_refused(BadText, "\n", line=0)
        self.assert_refused(BadText, TEXT + "\n", line=4)
        self.assert_refused(BadText, "\n" + TEXT, line=0)
        self.assert_refused(BadText, WORLD + "\n\n" + FREE, line=1)
        self.assert_refused(BadText, WORLD + "\n", line=1)
        self.assert_refused(BadText, " ", line=0)

    def test_worlds_lines(self):
        for line in ["world", "world 0 0 0", "world 0 0 0 0 0", "World 0 0 0 0", "world 0 0 0 x", "free 0 0 0 0", FREE,
                     "worlds 0 0 0 0", "world 0,0 0 0 0", "0 0 0 0", "world 0 0 0 1/1"]:
            self.assert_bad(line, 0)
        self.assert_bad(WORLD, 1)
        self.assert_bad(WORLD, 3)

    def test_words(self):
        for line in ["wal floor 0 0 0,0 1,0 0,1", "Wall w 0 0 0,0 1,0 0,1", "x", "take a", "turn", "railed" + RAIL[4:],
                     "free", "wall", "rail", "-", "0"]:
            for at in [1, 2, 3]:
                self.assert_bad(line, at)

    def test_counts_of_words(self):
        for line in ["wall w 0", "wall w", "free f 1 0 0 0", "free f 1", "rail r 1 1 0 0 0 0", "rail r"]:
            self.assert_bad(line)
        self.assert_bad("free f 1 0 0 0 0,0 1,0 0,1")
        self.assert_bad("wall w 0 0,0 1,0 0,1")
        self.assert_bad("wall w 0 0 0 0,0 1,0 0,1")
        self.assert_bad("rail r 1 1 0 0 0 0 0,0 1,0 0,1")

    def test_blanks(self):
        for line in LINES[1:]:
            self.assert_bad(line + " ")
            self.assert_bad(" " + line)
            for at, sign in enumerate(line):
                if sign == " ":
                    self.assert_bad(line[:at] + " " + line[at:])
        for line in ["wall  0 90 0,0 1,0 0,1", "free  1 0 90 0 0 0,0 1,0 0,1"]:
            self.assert_bad(line)
        for line in [WORLD + " ", " " + WORLD, WORLD.replace(" ", "  ", 1)]:
            self.assert_bad(line, 0)

    def test_shares(self):
        wrong = ["+1", "01", "-0", "00", "-01", "2/4", "4/2", "0/3", "1/1", "3/1", "1/0", "1/-2", "-1/-2", "1/02", "1/+2", "/2",
                 "1/", "1//2", "1/2/3", "--1", "1.5", "1e3", "x", "-", "1,2", "0x1", "1_0", TENS, "-" + TENS, "1/" + TENS,
                 "0/1", "-0/2", "'1'"]
        for word in wrong:
            for at in range(1, 5):
                words = WORLD.split(" ")
                words[at] = word
                self.assert_bad(" ".join(words), 0)
            for line, places in [(FREE, range(3, 7)), (WALL, range(2, 4)), (RAIL, range(5, 9))]:
                for at in places:
                    words = line.split(" ")
                    words[at] = word
                    self.assert_bad(" ".join(words))

    def test_whole_numbers(self):
        for word in ["+1", "01", "-0", "1/2", "2/1", "x", "-", "1.0", TENS, "1,2", "1/2/3"]:
            for line, places in [(FREE, [2]), (RAIL, [2, 3, 4])]:
                for at in places:
                    words = line.split(" ")
                    words[at] = word
                    self.assert_bad(" ".join(words))

    def test_a_mass_of_nought(self):
        self.assert_bad(FREE.replace("b 3", "b 0"))
        self.assert_bad(RAIL.replace("r 12", "r 0"))

    def test_corners(self):
        for word in ["0", "0,", ",0", ",", "0,0,0", "0,,0", "+1,0", "0,+1", "01,0", "-0,0", "0,-0", "1/2,0", "0,1/2", "0;0", "x,0",
                     "(0,0)", TENS + ",0", "0," + TENS, "0.0"]:
            for line in LINES[1:]:
                self.assert_bad(line + " " + word)
                self.assert_bad(" ".join(line.split(" ")[:-1] + [word]))

    def test_ahead_of_look_states_refusals(self):
        self.assert_refused(BadText, "\n".join(["world 0 0 7 -1", FREE, FREE, "x"]), line=3)
        self.assert_refused(BadText, "\n".join(["world 0 0 7 -1", "wall W 0 0", "wall w 0"]), line=2)

    def test_look_states_refusals(self):
        self.assert_refused(BadState, "world 0 0 7 0")
        self.assert_refused(BadState, "world 0 0 -1/2 0")
        self.assert_refused(BadState, "world 0 0 1 -3\nwall W 0 0")
        self.assert_refused(Twice, "\n".join([WORLD, FREE, WALL, FREE]), name="b")
        self.assert_refused(Over, "\n".join([WORLD, FREE, FREE.replace("free b", "free a")]), one="a", other="b")
        many = [f"wall {name} {4 * at} 0 0,0 2,0 0,1" for at, name in enumerate(LETTERS + "m")]
        self.assert_refused(Full, "\n".join([WORLD] + many))

    def test_rows_that_are_none(self):
        for part, line in [
            ("corners", "wall w 0 0"), ("corners", "wall w 0 0 0,0 1,0"), ("corners", "free f 1 0 0 0 0"),
            ("corners", "rail r 1 1 0 0 0 0 0"), ("corners", "wall w 0 0 0,0 0,1 1,0"),
            ("corners", f"wall w 0 0 {NINES},0 1,0 0,1"), ("mass", "free f -3 0 0 0 0 0,0 1,0 0,1"),
            ("mass", "free f 1000001 0 0 0 0 0,0 1,0 0,1"), ("rail", "rail r 1 2 2 0 0 0 0 0,0 1,0 0,1"),
            ("rail", "rail r 1 0 0 0 0 0 0 0,0 1,0 0,1"), ("rail", "rail r 1 1000001 1 0 0 0 0 0,0 1,0 0,1"),
            ("speed", "rail r 1 1 0 0 0 0 1 0,0 1,0 0,1"),
        ]:
            self.assert_refused(BadRow, "\n".join([WORLD, FREE, line]), part=part)

    def test_a_name_is_any_word(self):
        for name in ["B", "b1", "a-b", "~", "!", "0", "wall", "abcdefghijklm", "1/2", "x,y", "world"]:
            for line in ["wall {} 0 90 0,0 1,0 0,1", "free {} 1 0 90 0 0 0,0 1,0 0,1", "rail {} 1 1 0 0 90 0 0 0,0 1,0 0,1"]:
                text = "\n".join([WORLD, line.format(name)])
                if name in ("wall", "world"):
                    self.assertEqual(read_state(text)[3][0][0], name)
                else:
                    self.assert_refused(BadRow, text, part="name")

    def test_long_texts(self):
        self.assert_refused(BadText, "\n" * 60000, line=0)
        self.assert_refused(BadText, " " * 60000, line=0)
        self.assert_refused(BadText, "0," * 30000, line=0)
        self.assert_refused(BadRow, WORLD + "\nwall w 0 0" + " 0,0" * 14000, part="corners")
        self.assert_refused(BadText, WORLD + "\nwall w 0 0" + " 0,0" * 14000 + " 0", line=1)
        self.assert_refused(BadRow, WORLD + "\nwall " + "w" * 50000 + " 0 0 0,0 1,0 0,1", part="name")

    def test_diamonds(self):
        text = "world 0 0 1 0\nfree d 1 0 0 0 0 1,0 0,1 -1,0 0,-1"
        self.assertEqual(read_state(text)[3][0][1], DIAMOND)


if __name__ == "__main__":
    unittest.main()
