import unittest

from levelcord import errors
from levelcord.errors import CordError

NAMES = (
    "NoNumber", "NoText", "NoTube", "NoRow", "NoMeasure", "NoLevel", "NoData", "NoPrice", "NoNeeds", "NoRoom",
    "NoJobs", "NoCall", "NoKept",
)
FIELDS = {"NoText": "part", "NoLevel": "number", "NoCall": "row", "NoKept": "name"}


class TestErrors(unittest.TestCase):
    def test_each_is_a_cord_error_and_a_value_error(self):
        self.assertTrue(issubclass(CordError, ValueError))
        for name in NAMES:
            with self.subTest(name):
                self.assertTrue(issubclass(getattr(errors, name), CordError))

    def test_none_is_under_another_one(self):
        for one in NAMES:
            for other in NAMES:
                if one != other:
                    with self.subTest(one=one, other=other):
                        self.assertFalse(issubclass(getattr(errors, one), getattr(errors, other)))

    def test_fields_are_set_when_an_error_is_made(self):
        for name, field in FIELDS.items():
            for value in (None, 0, 3, "a b", [1]):
                with self.subTest(name=name, value=value):
                    self.assertEqual(getattr(getattr(errors, name)(value), field), value)

    def test_refusals_without_fields_are_made_with_words(self):
        for name in NAMES:
            if name not in FIELDS:
                with self.subTest(name):
                    self.assertEqual(str(getattr(errors, name)("some words")), "some words")
