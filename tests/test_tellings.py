"""Point [11]: tellings."""

import unittest

from keptandsaid.audiences import Audience
from keptandsaid.errors import InvalidMatrix, Undefined
from keptandsaid.nets import Net
from keptandsaid.tellings import decoder_of, first_unserved

from helper import FIELDS, Numbers, added_up, any_values, expect, expect_number, is_int, no_matrices, only_tuples
from helper import served, some_audiences, values

FIRST = (((1, 0),), ((0, 1),))
SECOND = (((0, 1),), ((1, 0),))
THIRD = (((1, 1),), ((1, 0),))


def some_tellings(seed, rounds):
    numbers = Numbers(seed)
    for audience in some_audiences(seed, rounds):
        yield audience, numbers.matrix(audience.p, numbers.below(audience.size + 2), audience.size)


class FirstUnserved(unittest.TestCase):
    def test_told_ones(self):
        audience = Audience(2, 2, (FIRST, SECOND, THIRD))
        self.assertIsNone(first_unserved(audience, ((1, 0), (0, 1))))
        self.assertIsNone(first_unserved(telling=((1, 1), (1, 0)), audience=audience))
        self.assertIsNone(first_unserved(Audience(2, 2, (FIRST, SECOND)), ((1, 1),)))
        self.assertIsNone(first_unserved(Audience(3, 2, (FIRST, SECOND, THIRD)), ((1, 2),)))
        for telling, listener in (((), 0), (((0, 0),), 0), (((1, 0),), 0), (((0, 1),), 1), (((1, 1),), 2)):
            self.assertEqual(first_unserved(audience, telling)[0], listener, telling)
            self.check(audience, telling)

    def test_nobody_and_nothing_wanted(self):
        for telling in ((), ((1, 0),), ((0, 0),)):
            self.assertIsNone(first_unserved(Audience(2, 2, ()), telling))
            self.assertIsNone(first_unserved(Audience(2, 2, (((), ()), (((1, 1),), ()))), telling))
            self.assertIsNone(first_unserved(Audience(2, 2, (((), ((0, 0),)),)), telling))

    def test_wants_that_it_knows(self):
        self.assertIsNone(first_unserved(Audience(5, 2, ((((2, 1),), ((4, 2), (0, 0))),)), ()))
        self.check(Audience(5, 2, ((((2, 1),), ((4, 2), (0, 1))),)), ())

    def test_only_a_later_want_is_not_spanned(self):
        audience = Audience(3, 3, (((), ((1, 0, 0), (0, 1, 0))),))
        self.assertIsNone(first_unserved(audience, ((1, 1, 0), (1, 2, 0))))
        self.check(audience, ((1, 0, 0),))
        self.check(audience, ((0, 1, 0),))
        self.assertEqual(first_unserved(audience, ((1, 0, 0),))[0], 0)

    def test_many(self):
        found = set()
        for audience, telling in some_tellings(31, 500):
            found.add(self.check(audience, telling))
        self.assertTrue({None, 0, 1, 2} <= found)

    def test_of_nets(self):
        ring = Net(12, tuple([(i, (i + 1) % 12) for i in range(12)]))
        for p in FIELDS:
            audience = ring.audience(p)
            rows = tuple([tuple([1 if j == i else p - 1 if j == i + 1 else 0 for j in range(12)]) for i in range(11)])
            self.assertIsNone(first_unserved(audience, rows))
            for k in range(11):
                self.check_words(audience, rows[:k] + rows[k + 1:], first_unserved(audience, rows[:k] + rows[k + 1:]))

    def test_no_matrix(self):
        for audience in (Audience(2, 2, (FIRST, SECOND)), Audience(2, 2, ())):
            for telling in no_matrices():
                error = expect(self, InvalidMatrix, {"value": telling}, first_unserved, audience, telling)
                self.assertIs(error.value, telling)

    def check(self, audience, telling):
        found = first_unserved(audience, telling)
        self.assertEqual(first_unserved(audience, telling), found)
        unserved = [k for k in range(len(audience.listeners)) if not served(audience, telling, k)]
        if not unserved:
            self.assertIsNone(found)
            return None
        self.check_words(audience, telling, found)
        self.assertEqual(found[0], unserved[0])
        return found[0]

    def check_words(self, audience, telling, found):
        self.assertTrue(only_tuples(found))
        listener, one, other = found
        knows, wants = audience.listeners[listener]
        for word in (one, other):
            self.assertIs(type(word), tuple)
            self.assertEqual(len(word), audience.size)
            self.assertTrue(all(is_int(letter) and 0 <= letter < audience.p for letter in word))
        for rows in (telling, knows):
            self.assertEqual(values(audience.p, rows, one), values(audience.p, rows, other))
        self.assertNotEqual(values(audience.p, wants, one), values(audience.p, wants, other))


class DecoderOf(unittest.TestCase):
    def test_told_ones(self):
        audience = Audience(2, 2, (FIRST, SECOND, THIRD))
        self.assertEqual(decoder_of(audience, ((1, 1),), 0), ((1, 1),))
        self.assertEqual(decoder_of(listener=1, telling=((1, 1),), audience=audience), ((1, 1),))
        self.assertEqual(decoder_of(Audience(3, 2, (THIRD,)), ((1, 2),), 0), ((2, 2),))
        self.assertEqual(decoder_of(Audience(2, 2, (((), ()),)), (), 0), ())
        self.assertEqual(decoder_of(Audience(2, 2, (((), ((0, 0),)),)), (), 0), ((),))

    def test_many(self):
        for audience, telling in some_tellings(32, 500):
            for listener in range(len(audience.listeners)):
                if served(audience, telling, listener):
                    self.check(audience, telling, listener)
                else:
                    expect(self, Undefined, {"what": "decoder"}, decoder_of, audience, telling, listener)

    def test_of_nets(self):
        ring = Net(12, tuple([(i, (i + 1) % 12) for i in range(12)]))
        for p in FIELDS:
            rows = tuple([tuple([1 if j == i else p - 1 if j == i + 1 else 0 for j in range(12)]) for i in range(11)])
            for listener in range(12):
                self.check(ring.audience(p), rows, listener)

    def test_of_many_rows(self):
        numbers = Numbers(33)
        for p in FIELDS:
            audience = Audience(p, 12, ((numbers.matrix(p, 20, 12), numbers.matrix(p, 20, 12)),))
            self.check(audience, numbers.matrix(p, 40, 12), 0)

    def test_no_matrix_ahead_of_all(self):
        audience = Audience(2, 2, (FIRST, SECOND))
        for telling in no_matrices():
            for listener in (0, 2, None):
                error = expect(self, InvalidMatrix, {"value": telling}, decoder_of, audience, telling, listener)
                self.assertIs(error.value, telling)

    def test_no_listener_ahead_of_no_decoder(self):
        audience = Audience(2, 2, (FIRST, SECOND))
        for telling in ((), ((1, 1),)):
            for listener in any_values() + [audience]:
                if not (is_int(listener) and 0 <= listener < 2):
                    expect_number(self, listener, decoder_of, audience, telling, listener)
        expect_number(self, 0, decoder_of, Audience(2, 2, ()), (), 0)

    def test_no_decoder(self):
        audience = Audience(2, 2, (FIRST, SECOND))
        for telling, listener in (((), 0), ((), 1), (((1, 0),), 0), (((0, 1),), 1), (((0, 0), (0, 0)), 0)):
            expect(self, Undefined, {"what": "decoder"}, decoder_of, audience, telling, listener)
        wants = Audience(3, 2, (((), ((1, 0), (0, 1))),))
        expect(self, Undefined, {"what": "decoder"}, decoder_of, wants, ((1, 0),), 0)
        expect(self, Undefined, {"what": "decoder"}, decoder_of, wants, ((0, 1),), 0)

    def check(self, audience, telling, listener):
        found = decoder_of(audience, telling, listener)
        knows, wants = audience.listeners[listener]
        self.assertTrue(only_tuples(found))
        self.assertEqual(len(found), len(wants))
        for letters, row in zip(found, wants):
            self.assertIs(type(letters), tuple)
            self.assertEqual(len(letters), len(telling) + len(knows))
            self.assertTrue(all(is_int(letter) and 0 <= letter < audience.p for letter in letters))
            self.assertEqual(added_up(audience.p, telling + knows, letters, audience.size), row)


if __name__ == "__main__":
    unittest.main()
