"""Point 4."""

import unittest

from restbodies import bounds


class Bounds(unittest.TestCase):

    def test_each_number(self):
        told = {name: value for name, value in vars(bounds).items() if name.isupper()}
        self.assertEqual(told, {
            "CORNERS": 8, "REACH": 1000000, "MASS": 1000000, "BODIES": 12,
            "MEETINGS": 24, "DEEDS": 100, "LINES": 200, "FIGURES": 400,
        })
        self.assertEqual({type(value) for value in told.values()}, {int})


if __name__ == "__main__":
    unittest.main()
