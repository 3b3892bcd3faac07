"""Promise [6] and the interface of fourmet/errors.py."""

import unittest

from fourmet import errors
from helpers import ATTRIBUTES

SAMPLES = {
    "BadName": ("A",), "RepeatedName": ("a",), "UnknownName": ("b",), "TooMany": (12,), "WrongCount": (3,),
    "BadNumber": (-1,), "BadSplit": (("a", "b"),), "Clash": (("b", "c"), ("c", "d")), "BadText": (6,),
    "BadLine": (2,), "BadTelling": (0,), "NotInAll": (1,), "NotAlike": (4,), "Untold": (("a", "b", "c"),),
}


class TestErrors(unittest.TestCase):
    def test_the_base(self):
        self.assertEqual(errors.FourmetError.__bases__, (ValueError,))

    def test_each_class_derives_directly_from_the_base(self):
        for name in ATTRIBUTES:
            with self.subTest(name):
                self.assertEqual(getattr(errors, name).__bases__, (errors.FourmetError,))

    def test_there_are_no_other_classes(self):
        found = [name for name, value in vars(errors).items() if isinstance(value, type)]
        self.assertEqual(sorted(found), sorted([*ATTRIBUTES, "FourmetError"]))

    def test_attributes_are_what_was_passed_by_position(self):
        for name, words in ATTRIBUTES.items():
            with self.subTest(name):
                values = SAMPLES.get(name, ())
                error = getattr(errors, name)(*values)
                self.assertEqual(tuple(getattr(error, word) for word in words), values)
                self.assertEqual(len(words), len(values))

    def test_the_values_of_wrong_kinds_are_kept_as_they_are(self):
        for value in (True, False, None, 7, ""):
            self.assertIs(errors.BadName(value).name, value)
            self.assertIs(errors.BadNumber(value).number, value)

    def test_they_are_caught_as_the_base_and_as_value_errors(self):
        for name in ATTRIBUTES:
            with self.subTest(name):
                with self.assertRaises(errors.FourmetError):
                    raise getattr(errors, name)(*SAMPLES.get(name, ()))
                with self.assertRaises(ValueError):
                    raise getattr(errors, name)(*SAMPLES.get(name, ()))


if __name__ == "__main__":
    unittest.main()
