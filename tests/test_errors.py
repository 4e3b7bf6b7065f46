"""Promises 0.3: the errors."""

import copy
import unittest

from fullorring import errors
from plain import PlainTest, nested

FIELDS = {
    "BadTable": ("part", "at"), "NoPerson": (), "NoThing": (), "NoNumbers": (), "NoNumber": (), "BadText": ("line",),
    "NoDealing": (), "NoLot": (), "TooMany": ("most",), "Stuck": (), "NoRing": (), "NoTie": (), "NoStanding": (),
    "NoTurn": (), "NoCustom": (), "NoFraction": (), "NoBook": (), "NoHistory": (), "NoTickets": (), "NoSteps": (),
    "NoChances": (), "NoPrices": (), "BadKinds": ("part",), "Empty": (), "NoSizes": (), "NoLooks": (),
    "NoOutcome": (), "NoComer": (), "NotOpen": (), "NothingDone": (), "NoLine": (), "NoName": ("name",),
}


class ErrorsTest(PlainTest):

    def test_there_are_just_these(self):
        found = [name for name, thing in vars(errors).items() if isinstance(thing, type)]
        self.assertEqual(sorted(found), sorted(list(FIELDS) + ["DrawError"]))
        self.assertEqual(len(FIELDS), 32)

    def test_derive_directly(self):
        self.assertEqual(errors.DrawError.__bases__, (ValueError,))
        for name in FIELDS:
            self.assertEqual(getattr(errors, name).__bases__, (errors.DrawError,), name)
            self.assertEqual(getattr(errors, name).__module__, "fullorring.errors")
            self.assertEqual(getattr(errors, name).__name__, name)

    def test_fields_keep_whatever_is_passed(self):
        things = [None, True, 0, -1, 10 ** 59, "", "rows", b"x", [1], (), {1: [2]}, range(3), len, errors.NoTie()]
        for name, fields in FIELDS.items():
            for thing in things + [nested(lambda one: [one])]:
                values = [thing, [thing]][:len(fields)]
                error = getattr(errors, name)(*values)
                self.assertEqual(sorted(vars(error)), sorted(fields), name)
                for field, value in zip(fields, values):
                    self.assertIs(getattr(error, field), value)

    def test_are_made_with_just_their_fields(self):
        for name, fields in FIELDS.items():
            for many in range(4):
                if many != len(fields):
                    with self.assertRaises(TypeError, msg=name):
                        getattr(errors, name)(*[0] * many)

    def test_are_of_no_other_class(self):
        for name, fields in FIELDS.items():
            error = getattr(errors, name)(*[0] * len(fields))
            self.assertIsInstance(error, errors.DrawError)
            self.assertIsInstance(error, ValueError)
            others = [other for other in FIELDS if isinstance(error, getattr(errors, other))]
            self.assertEqual(others, [name])

    def test_can_be_raised_shown_and_copied(self):
        for name, fields in FIELDS.items():
            with self.assertRaises(errors.DrawError) as caught:
                raise getattr(errors, name)(*[7] * len(fields))
            self.assertIsInstance(str(caught.exception) + repr(caught.exception), str)
            self.assertEqual(vars(copy.copy(caught.exception)), vars(caught.exception))


if __name__ == "__main__":
    unittest.main()
