"""Point [3]: the errors."""

import unittest

from keptandsaid import errors
from keptandsaid.errors import SayError

from helper import any_values

PARTS = {
    "InvalidNumber": ("value",),
    "InvalidMatrix": ("value",),
    "InvalidAudience": ("part", "place"),
    "InvalidNet": ("part", "place"),
    "InvalidLot": ("value",),
    "InvalidWord": ("value",),
    "InvalidWords": ("value",),
    "InvalidSignals": ("value",),
    "InvalidLosses": ("value",),
    "InvalidDeed": ("value",),
    "InvalidText": ("text", "at"),
    "InvalidLine": ("line", "at"),
    "UnknownWord": ("word",),
    "TooMany": ("what",),
    "Undefined": ("what",),
    "NothingToUndo": ("word",),
}


def kind(name):
    return getattr(errors, name)


class Errors(unittest.TestCase):
    def test_say_error_is_a_value_error(self):
        self.assertEqual(SayError.__bases__, (ValueError,))

    def test_each_stands_directly_under_say_error(self):
        for name in PARTS:
            with self.subTest(name):
                self.assertEqual(kind(name).__bases__, (SayError,))
                self.assertEqual(kind(name).__name__, name)

    def test_none_is_another_one(self):
        for name, parts in PARTS.items():
            error = kind(name)(*[3] * len(parts))
            self.assertIsInstance(error, SayError)
            self.assertIsInstance(error, ValueError)
            for other in PARTS:
                if other != name:
                    self.assertNotIsInstance(error, kind(other))

    def test_arguments_are_kept_by_place_and_by_name(self):
        for name, parts in PARTS.items():
            for value in any_values():
                given = [value, ["a list"]][:len(parts)]
                for error in (kind(name)(*given), kind(name)(**dict(zip(parts, given)))):
                    for part, argument in zip(parts, given):
                        self.assertIs(getattr(error, part), argument)

    def test_both_arguments_are_kept_apart(self):
        for name, parts in PARTS.items():
            if len(parts) == 2:
                error = kind(name)("one", "other")
                self.assertEqual((getattr(error, parts[0]), getattr(error, parts[1])), ("one", "other"))
                error = kind(name)(**{parts[1]: "other", parts[0]: "one"})
                self.assertEqual((getattr(error, parts[0]), getattr(error, parts[1])), ("one", "other"))

    def test_a_later_change_of_a_kept_list_shows(self):
        for name, parts in PARTS.items():
            value = [1]
            error = kind(name)(*[value] * len(parts))
            value.append(2)
            for part in parts:
                self.assertEqual(getattr(error, part), [1, 2])

    def test_they_can_be_raised_and_caught(self):
        for name, parts in PARTS.items():
            with self.assertRaises(SayError) as told:
                raise kind(name)(*[None] * len(parts))
            self.assertIs(type(told.exception), kind(name))

    def test_numbers_of_arguments(self):
        for name, parts in PARTS.items():
            for many in (0, len(parts) + 1):
                with self.assertRaises(TypeError):
                    kind(name)(*[1] * many)


if __name__ == "__main__":
    unittest.main()
