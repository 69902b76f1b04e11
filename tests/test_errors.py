"""The interface, section restbodies/errors.py."""

import unittest

from restbodies import errors
from restbodies.errors import BodyError

FIELDS = {
    "NoShare": (), "NoWay": (), "BadShape": (), "BadRow": ("part",), "Over": ("one", "other"),
    "Early": ("time",), "Calm": (), "NoBody": (), "Twice": ("name",), "Full": (), "Long": (),
    "BadPush": (), "BadSpan": (), "BadCount": (), "BadState": (), "Crowded": ("clock",),
    "TooFine": (), "Nothing": (), "Wrong": ("deed", "act"), "BadText": ("line",), "BadLine": (),
}

VALUES = {
    "part": "mass", "one": "a", "other": "b", "time": (5, 2), "name": "box", "clock": (7, 3),
    "deed": 4, "act": None, "line": 6,
}


class Errors(unittest.TestCase):

    def test_there_are_twenty_one(self):
        self.assertEqual(len(FIELDS), 21)
        told = [name for name, kind in vars(errors).items()
                if isinstance(kind, type) and name != "BodyError"]
        self.assertEqual(sorted(told), sorted(FIELDS))

    def test_body_error_is_a_value_error(self):
        self.assertEqual(BodyError.__bases__, (ValueError,))

    def test_each_is_under_body_error_and_under_no_other(self):
        for name in FIELDS:
            kind = getattr(errors, name)
            self.assertEqual(kind.__bases__, (BodyError,), name)
            self.assertEqual([other for other in FIELDS if issubclass(kind, getattr(errors, other))], [name])

    def test_each_is_defined_in_its_file(self):
        for name in FIELDS:
            self.assertEqual(getattr(errors, name).__module__, "restbodies.errors")

    def test_fields_are_set_when_it_is_made(self):
        for name, fields in FIELDS.items():
            with self.subTest(name):
                made = getattr(errors, name)(*[VALUES[field] for field in fields])
                self.assertEqual(vars(made), {field: VALUES[field] for field in fields})

    def test_two_fields_stand_in_their_order(self):
        over = errors.Over("a", "b")
        self.assertEqual((over.one, over.other), ("a", "b"))
        wrong = errors.Wrong(3, 7)
        self.assertEqual((wrong.deed, wrong.act), (3, 7))

    def test_each_has_a_message_also_of_very_long_numbers(self):
        long = (10 ** 9000 + 1, 10 ** 9000)
        self.assertTrue(str(errors.Early(long)))
        self.assertTrue(str(errors.Crowded(long)))
        self.assertEqual(errors.Early(long).time, long)
        self.assertEqual(errors.Crowded(long).clock, long)


if __name__ == "__main__":
    unittest.main()
