"""Point [5]: fields."""

import unittest

from keptandsaid.errors import Undefined
from keptandsaid.fields import inverse_of, is_field

from helper import FIELDS, any_values, expect, expect_number, is_int


class Fields(unittest.TestCase):
    def test_is_field_of_integers(self):
        for p in range(-20, 400):
            self.assertIs(is_field(p), p in (2, 3, 5, 7, 11, 13), p)

    def test_is_field_of_values_of_every_kind(self):
        for value in any_values():
            self.assertIs(is_field(value), is_int(value) and value in (2, 3, 5, 7, 11, 13), value)
        for value in (True, False, None, "2", "", (2,), [2], (), [], "3", b"2"):
            self.assertIs(is_field(value), False, value)
        self.assertIs(is_field(p=7), True)

    def test_inverse_of_each_letter_of_each_field(self):
        for p in FIELDS:
            for a in range(1, p):
                b = inverse_of(p, a)
                self.assertIs(type(b), int)
                self.assertTrue(0 <= b < p)
                self.assertEqual(a * b % p, 1, (p, a))
                self.assertEqual(inverse_of(a=a, p=p), b)
            expect(self, Undefined, {"what": "inverse"}, inverse_of, p, 0)

    def test_no_field(self):
        for p in any_values() + [4, 6, 8, 9, 15, 17]:
            if not is_field(p):
                for a in (1, 0, 100, None):
                    expect_number(self, p, inverse_of, p, a)

    def test_no_letter(self):
        for p in FIELDS:
            for a in any_values() + [p, p + 1, -p]:
                if not (is_int(a) and 0 <= a < p):
                    expect_number(self, a, inverse_of, p, a)

    def test_bools_are_no_letters(self):
        expect_number(self, True, inverse_of, 2, True)
        expect_number(self, False, inverse_of, 2, False)
        expect_number(self, True, inverse_of, True, True)


if __name__ == "__main__":
    unittest.main()
