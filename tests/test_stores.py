"""Point [12]: stores."""

import itertools
import unittest

from keptandsaid.audiences import Audience
from keptandsaid.errors import InvalidLot, InvalidMatrix
from keptandsaid.fields import is_field
from keptandsaid.matrices import zero_rows
from keptandsaid.nets import Net
from keptandsaid.stores import first_unkept, least_spread, told_without
from keptandsaid.tellings import first_unserved

from helper import FIELDS, Numbers, any_values, expect, expect_number, is_int, no_matrices, only_tuples, some_audiences
from helper import spanned, values

FIRST = (((1, 0),), ((0, 1),))
SECOND = (((0, 1),), ((1, 0),))
THIRD = (((1, 1),), ((1, 0),))

# Each is no matrix of the columns of its first row over 2.
NO_MATRICES = [
    None, True, 0, "10", [], [(1, 0)], ([1, 0],), (1, 0), ((1, 0), (1,)), ((),), ((0,) * 13,), ((2, 0),), ((-1, 0),),
    ((True, 0),), (None,), ((1, 0), None), ("10",), ((("1", "0"),),),
]


def kept(audience, store, listener):
    knows, wants = audience.listeners[listener]
    seen = {}
    for word in spanned(audience.p, store, audience.size):
        wanted = values(audience.p, wants, word)
        if seen.setdefault(values(audience.p, knows, word), wanted) != wanted:
            return False
    return True


def some_stores(seed, rounds, sizes=None):
    numbers = Numbers(seed)
    for audience in some_audiences(seed, rounds, sizes):
        rows = numbers.matrix(audience.p, numbers.below(audience.size + 2), audience.size)
        if rows and numbers.below(3) == 0:
            rows = rows + rows[:1]
        yield audience, rows


def lots_of(columns):
    for many in range(columns + 1):
        yield from itertools.combinations(range(columns), many)


class FirstUnkept(unittest.TestCase):
    def test_told_ones(self):
        audience = Audience(2, 2, (FIRST, SECOND, THIRD))
        self.assertIsNone(first_unkept(audience, ()))
        self.assertIsNone(first_unkept(audience, ((0, 0),)))
        self.assertIsNone(first_unkept(store=((1, 1),), audience=Audience(2, 2, (FIRST, SECOND))))
        self.assertIsNone(first_unkept(Audience(3, 2, (FIRST, SECOND, THIRD)), ((1, 1),)))
        for store, listener in ((((0, 1),), 0), (((1, 0),), 1), (((1, 1),), 2), (((1, 0), (0, 1)), 0)):
            self.assertEqual(first_unkept(audience, store)[0], listener, store)
            self.check(audience, store)

    def test_nobody_and_nothing_wanted(self):
        for store in ((), ((1, 0),), ((1, 0), (0, 1)), ((0, 0),)):
            self.assertIsNone(first_unkept(Audience(2, 2, ()), store))
            self.assertIsNone(first_unkept(Audience(2, 2, (((), ()), (((1, 1),), ()))), store))
            self.assertIsNone(first_unkept(Audience(2, 2, (((), ((0, 0),)),)), store))
            self.assertIsNone(first_unkept(Audience(2, 2, ((((1, 0), (0, 1)), ((1, 1),)),)), store))

    def test_many(self):
        found = set()
        for audience, store in some_stores(121, 500):
            found.add(self.check(audience, store))
        self.assertTrue({None, 0, 1, 2} <= found)

    def test_a_telling_and_the_store_of_its_zero_rows(self):
        found = set()
        for audience, rows in some_stores(122, 300):
            others = zero_rows(audience.p, rows, audience.size)
            self.assertEqual(first_unserved(audience, rows) is None, first_unkept(audience, others) is None)
            self.assertEqual(first_unkept(audience, rows) is None, first_unserved(audience, others) is None)
            found.add((first_unserved(audience, rows) is None, first_unkept(audience, rows) is None))
        self.assertEqual(len(found), 4)

    def test_of_nets(self):
        ring = Net(12, tuple([(i, (i + 1) % 12) for i in range(12)]))
        for p in FIELDS:
            audience = ring.audience(p)
            self.assertIsNone(first_unkept(audience, ((1,) * 12,)))
            self.check_words(audience, ((1,) * 11 + (0,),), first_unkept(audience, ((1,) * 11 + (0,),)))

    def test_of_many_rows(self):
        numbers = Numbers(123)
        listeners = [(numbers.matrix(2, 20, 12), numbers.matrix(2, 20, 12)) for _ in range(12)]
        self.assertIsNone(first_unkept(Audience(2, 12, listeners), numbers.matrix(2, 40, 12)))
        unknowing = Audience(2, 12, listeners[:4] + [((), listeners[0][1])])
        self.assertEqual(first_unkept(unknowing, numbers.matrix(2, 40, 12))[0], 4)

    def test_no_matrix(self):
        for audience in (Audience(2, 2, (FIRST, SECOND)), Audience(2, 2, ())):
            for store in no_matrices():
                error = expect(self, InvalidMatrix, {"value": store}, first_unkept, audience, store)
                self.assertIs(error.value, store)

    def check(self, audience, store):
        found = first_unkept(audience, store)
        self.assertEqual(first_unkept(audience, store), found)
        unkept = [k for k in range(len(audience.listeners)) if not kept(audience, store, k)]
        if not unkept:
            self.assertIsNone(found)
            return None
        self.check_words(audience, store, found)
        self.assertEqual(found[0], unkept[0])
        return found[0]

    def check_words(self, audience, store, found):
        self.assertTrue(only_tuples(found))
        listener, one, other = found
        knows, wants = audience.listeners[listener]
        inside = spanned(audience.p, store, audience.size)
        for word in (one, other):
            self.assertIs(type(word), tuple)
            self.assertTrue(all(is_int(letter) for letter in word))
            self.assertIn(word, inside)
        self.assertEqual(values(audience.p, knows, one), values(audience.p, knows, other))
        self.assertNotEqual(values(audience.p, wants, one), values(audience.p, wants, other))


class ToldWithout(unittest.TestCase):
    def test_told_ones(self):
        for p, store, lot, expected in [
            (2, ((1, 1),), (), True), (2, ((1, 1),), (0,), True), (2, ((1, 1),), (0, 1), False),
            (2, ((1, 0),), (0,), False), (2, ((1, 0),), (1,), True), (3, ((1, 1, 0), (0, 1, 1)), (1,), True),
            (3, ((1, 1, 0), (0, 1, 1)), (0, 1), False), (3, ((1, 2, 1), (2, 1, 2)), (0, 2), True),
            (2, ((0, 0),), (0, 1), True), (2, ((0, 0), (0, 0)), (), True), (2, ((1, 1), (1, 1)), (1,), True),
        ]:
            self.assertIs(told_without(p, store, lot), expected, (p, store, lot))
            self.assertIs(told_without(lot=lot, store=store, p=p), expected)

    def test_no_row(self):
        for lot in ((), (0,), (11,), (12, 13), (0, 5, 10 ** 30)):
            self.assertIs(told_without(2, (), lot), True)

    def test_many(self):
        found = set()
        for audience, store in some_stores(124, 250, {2: 5, 3: 4, 5: 3, 7: 2, 11: 2, 13: 2}):
            p, columns = audience.p, audience.size
            words = spanned(p, store, columns)
            for lot in lots_of(columns):
                outside = {tuple(word[k] for k in range(columns) if k not in lot) for word in words}
                expected = len(outside) == len(words)
                self.assertIs(told_without(p, store, lot), expected, (p, store, lot))
                found.add(expected)
        self.assertEqual(found, {True, False})

    def test_great_ones(self):
        for p in FIELDS:
            row = tuple([p - 1] * 12)
            self.assertIs(told_without(p, (row,) * 40, tuple(range(11))), True)
            self.assertIs(told_without(p, (row,) * 40, tuple(range(12))), False)

    def test_errors_in_order(self):
        wrong_fields = [value for value in any_values() + [4, 6, 9, 17] if not is_field(value)]
        for p in wrong_fields:
            for store in (((1, 0),), (), None, ((1, 0), (1,))):
                for lot in ((0,), (1, 0), None):
                    expect_number(self, p, told_without, p, store, lot)
        for store in NO_MATRICES:
            for lot in ((0,), (1, 0), None):
                error = expect(self, InvalidMatrix, {"value": store}, told_without, 2, store, lot)
                self.assertIs(error.value, store)

    def test_no_lot(self):
        for store in (((1, 0),), ((0, 0), (1, 1))):
            for lot in any_values() + [(2,), (0, 2), (0, 0), (1, 0), (0, 1, 2), (-1, 0), [0, 1], (0, None), (0, True)]:
                if not (isinstance(lot, tuple) and only_tuples(lot) and lot in ((), (0,), (1,), (0, 1))):
                    error = expect(self, InvalidLot, {"value": lot}, told_without, 2, store, lot)
                    self.assertIs(error.value, lot)

    def test_no_lot_without_rows(self):
        for lot in any_values() + [(0, 0), (5, 4), (-1,), (-1, 0), [], [0, 1], (0, None), (0, True), (1, (2,)), ("0",)]:
            if not (isinstance(lot, tuple) and all(is_int(k) for k in lot) and lot in ((), (0,))):
                error = expect(self, InvalidLot, {"value": lot}, told_without, 2, (), lot)
                self.assertIs(error.value, lot)


class LeastSpread(unittest.TestCase):
    def test_told_ones(self):
        for p, store, expected in [
            (2, (), None), (2, ((0, 0),), None), (13, ((0,) * 12,) * 3, None), (2, ((1,),), 1), (2, ((0, 1, 0),), 1),
            (2, ((1, 1, 1),), 3), (2, ((1, 1, 0), (0, 1, 1)), 2), (3, ((1, 1, 1), (1, 2, 0)), 2), (3, ((0, 2, 0),), 1),
            (2, ((1, 1, 1), (1, 1, 1)), 3), (5, ((1, 2, 3, 4),), 4), (2, ((1, 1, 1), (1, 1, 0)), 1),
        ]:
            self.assertEqual(least_spread(p, store), expected, (p, store))
            self.assertEqual(least_spread(store=store, p=p), expected)

    def test_many(self):
        found = set()
        for audience, store in some_stores(125, 500):
            words = spanned(audience.p, store, audience.size) - {(0,) * audience.size}
            expected = min([audience.size - word.count(0) for word in words], default=None)
            self.assertEqual(least_spread(audience.p, store), expected, store)
            self.assertIn(type(least_spread(audience.p, store)), (int, type(None)))
            found.add(expected)
        self.assertTrue({None, 1, 2, 3, 4} <= found)

    def test_as_many_words_as_may_be(self):
        evens = tuple([tuple([1 if k in (j, 11) else 0 for k in range(12)]) for j in range(11)])
        self.assertEqual(least_spread(2, evens), 2)
        self.assertEqual(least_spread(2, evens + ((1,) + (0,) * 11,)), 1)
        powers = tuple([tuple([k ** j % 13 for k in range(12)]) for j in range(3)])
        self.assertEqual(least_spread(13, powers), 10)
        self.assertEqual(least_spread(11, tuple([row[:11] for row in [(1,) * 11, tuple(range(11))]])), 10)

    def test_told_without_all_lots(self):
        for audience, store in some_stores(126, 200, {2: 5, 3: 4, 5: 3, 7: 2, 11: 2, 13: 2}):
            least = least_spread(audience.p, store)
            for many in range(audience.size + 1):
                lots = list(itertools.combinations(range(audience.size), many))
                told = all([told_without(audience.p, store, lot) for lot in lots])
                self.assertIs(told, least is None or least > many)

    def test_errors_in_order(self):
        for p in any_values() + [4, 6, 9, 17]:
            if not is_field(p):
                for store in (((1, 0),), (), None, ((1, 0), (1,))):
                    expect_number(self, p, least_spread, p, store)
        for store in NO_MATRICES:
            error = expect(self, InvalidMatrix, {"value": store}, least_spread, 2, store)
            self.assertIs(error.value, store)


if __name__ == "__main__":
    unittest.main()
