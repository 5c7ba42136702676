"""The refusals of tensloft/errors.py."""

import copy
import pickle
import unittest

from tensloft import errors
from tensloft.errors import LoftError

FIELDS = {
    "NoShape": ("part",),
    "NoFit": ("number",),
    "Wrong": ("place", "why"),
    "NoTable": ("at",),
    "NoRow": ("at",),
    "BadLine": ("at",),
    "TooLong": ("number",),
    "NoRule": ("rule",),
    "NoDeed": ("deed",),
    "NoName": ("name",),
    "NoText": (),
    "Nought": (),
    "Unlike": (),
    "NoLine": (),
    "NothingDone": (),
}
THINGS = (0, 1, -1, 12, 10 ** 39, 1 - 10 ** 40, 10 ** 5000, "", "kind", "figures", "-12.50", "a b", "~")


def made(name, first, second):
    """A refusal of these things in the places of its fields, and the things by field."""
    fields = FIELDS[name]
    worths = (first, second)[:len(fields)]
    refusal = getattr(errors, name)(*worths) if fields else getattr(errors, name)("a text")
    return refusal, dict(zip(fields, worths))


class ErrorsTest(unittest.TestCase):
    def test_loft_error_is_a_value_error(self):
        self.assertEqual(LoftError.__bases__, (ValueError,))
        self.assertIsInstance(LoftError("a text"), ValueError)

    def test_each_stands_straight_under_loft_error(self):
        self.assertEqual(len(FIELDS), 15)
        for name in FIELDS:
            with self.subTest(name=name):
                self.assertEqual(getattr(errors, name).__bases__, (LoftError,))
                self.assertEqual(getattr(errors, name).__module__, "tensloft.errors")

    def test_each_is_of_none_of_the_others(self):
        for name in FIELDS:
            refusal, wanted = made(name, 1, "x")
            self.assertIsInstance(refusal, LoftError)
            self.assertIsInstance(refusal, ValueError)
            kin = [other for other in FIELDS if isinstance(refusal, getattr(errors, other))]
            self.assertEqual(kin, [name])

    def test_fields_hold_any_numbers_and_texts(self):
        for name in FIELDS:
            for first in THINGS:
                for second in THINGS:
                    refusal, wanted = made(name, first, second)
                    self.assertEqual(vars(refusal), wanted)
                    for field in wanted:
                        self.assertIs(getattr(refusal, field), wanted[field])

    def test_fields_are_each_objects_own(self):
        for name in FIELDS:
            one, of_one = made(name, 3, "zone")
            other, of_other = made(name, "sum", 40)
            self.assertEqual(vars(one), of_one)
            self.assertEqual(vars(other), of_other)
            for field in FIELDS[name]:
                self.assertFalse(hasattr(getattr(errors, name), field))

    def test_without_fields_made_of_one_text(self):
        for name in FIELDS:
            if not FIELDS[name]:
                for text in ("", "a text", "~"):
                    self.assertEqual(str(getattr(errors, name)(text)), text)

    def test_raised_and_caught(self):
        for name in FIELDS:
            refusal, wanted = made(name, 2, "sign")
            with self.assertRaises(LoftError) as held:
                raise refusal
            self.assertEqual(vars(held.exception).items() & wanted.items(), wanted.items())

    def test_a_copy_keeps_the_fields(self):
        for name in FIELDS:
            refusal, wanted = made(name, 2, "sign")
            for twin in (copy.copy(refusal), pickle.loads(pickle.dumps(refusal))):
                self.assertEqual(twin.__class__, refusal.__class__)
                self.assertEqual(vars(twin), wanted)


if __name__ == "__main__":
    unittest.main()
