"""Point [14]: books of spaces."""

import unittest

from keptandsaid.audiences import Audience
from keptandsaid.books import book_holds, book_of
from keptandsaid.errors import TooMany, Undefined
from keptandsaid.least import said_least
from keptandsaid.matrices import is_matrix, reduced_rows
from keptandsaid.nets import Net

from helper import FEW, FIELDS, Numbers, any_values, expect, expect_number, holds_by_trial, is_int, only_tuples
from helper import some_audiences, some_nets, spanned

FIRST = (((1, 0),), ((0, 1),))
SECOND = (((0, 1),), ((1, 0),))
THIRD = (((1, 1),), ((1, 0),))
AUDIENCE = Audience(2, 2, (FIRST, SECOND, THIRD))
# What listener 0 wants must be said alone or plus (1, 0); neither of both serves all.
BOOK = (((), 0, 0), (((0, 1),), 1, 0), (((1, 1),), 2, 0))

# Their lacks lead from () to all spaces of one row but that of (1, 0, 0), and on from there.
WIDE = Audience(2, 3, ((((1, 0, 0),), ((0, 1, 0),)), (((0, 1, 1),), ((0, 0, 1), (1, 1, 1))), ((), ((1, 0, 1),))))


def changed_books(audience, r, book, numbers):
    """Books that differ from this one by a small change."""
    at = numbers.below(len(book))
    space, listener, row = book[at]
    ahead, behind = book[:at], book[at + 1:]
    yield ahead + behind
    yield ahead + (book[at], book[at]) + behind
    yield behind[::-1] + ahead + (book[at],)
    for other in range(len(audience.listeners) + 1):
        yield ahead + ((space, other, row),) + behind
        yield tuple(sorted(book + ((space, other, row),)))
        yield tuple(sorted(book + ((space + numbers.matrix(audience.p, 1, audience.size), other, row),)))
    for other in range(4):
        yield ahead + ((space, listener, other),) + behind
    for more in (1, audience.size - 1):
        rows = reduced_rows(audience.p, numbers.matrix(audience.p, more, audience.size))
        for other in range(len(audience.listeners)):
            yield tuple(sorted(book + ((rows, other, 0),)))


class BookOf(unittest.TestCase):
    def test_told_ones(self):
        self.assertEqual(book_of(AUDIENCE, 0), ())
        self.assertIn(book_of(AUDIENCE, 1), ((((), 0, 0),), (((), 1, 0),), (((), 2, 0),)))
        self.assertEqual(book_of(r=0, audience=Audience(13, 3, ())), ())
        self.assertEqual(book_of(Audience(2, 1, (((), ((1,),)),)), 1), (((), 0, 0),))

    def test_for_each_number_up_to_said(self):
        many = set()
        for audience in some_audiences(141, 150, FEW):
            said = said_least(audience)
            many.add(said)
            for r in range(said + 1):
                self.check(audience, r)
            for r in (said + 1, said + 2, 100, 10 ** 30):
                expect(self, Undefined, {"what": "book"}, book_of, audience, r)
        self.assertTrue({0, 1, 2, 3} <= many, many)

    def test_of_nets(self):
        for net in some_nets(142, 60, 4):
            for p in (2, 3, 5, 7):
                audience = net.audience(p)
                said = said_least(audience)
                for r in range(said + 1):
                    self.check(audience, r)
                expect(self, Undefined, {"what": "book"}, book_of, audience, said + 1)

    def test_edges_of_few_spaces(self):
        numbers = Numbers(143)
        for p, size in FEW.items():
            for known in range(size):
                audience = Audience(p, size, [
                    (numbers.matrix(p, known, size), numbers.matrix(p, 2, size)) for _ in range(12)
                ])
                for r in range(said_least(audience) + 1):
                    self.check(audience, r)
            pairs = [(i, (i + 1) % size) for i in range(size)] + [((i + 1) % size, i) for i in range(size)]
            audience = Net(size, sorted(set(pairs))).audience(p)
            self.check(audience, said_least(audience))

    def test_no_number_ahead_of_no_book(self):
        for audience in (AUDIENCE, Audience(2, 2, ())):
            for r in any_values():
                if not (is_int(r) and r >= 0):
                    expect_number(self, r, book_of, audience, r)

    def test_too_many_spaces_ahead_of_no_number(self):
        for p, size in FEW.items():
            for r in (0, 1, 99, -1, None, True):
                expect(self, TooMany, {"what": "spaces"}, book_of, Audience(p, size + 1, ()), r)

    def check(self, audience, r):
        book = book_of(audience, r)
        self.assertTrue(only_tuples(book))
        self.assertEqual(book_of(audience, r), book)
        for entry in book:
            self.assertEqual(len(entry), 3)
            self.assertTrue(is_matrix(entry[0], audience.p, audience.size))
            self.assertTrue(is_int(entry[1]) and is_int(entry[2]))
        if len(book) < 60:
            self.assertTrue(holds_by_trial(audience, r, book))
        self.assertIs(book_holds(audience, r, book), True)


class BookHolds(unittest.TestCase):
    def test_told_ones(self):
        self.assertIs(book_holds(AUDIENCE, 2, BOOK), True)
        self.assertIs(book_holds(book=BOOK, r=2, audience=AUDIENCE), True)
        self.assertIs(book_holds(AUDIENCE, 1, BOOK[:1]), True)
        self.assertIs(book_holds(AUDIENCE, 0, ()), True)

    def test_for_nought_only_the_empty_one(self):
        for audience in (AUDIENCE, Audience(2, 2, ())):
            self.assertIs(book_holds(audience, 0, ()), True)
            for book in (BOOK, BOOK[:1], [], None, 0, False, ((),), "", ((), 0, 0)):
                self.assertIs(book_holds(audience, 0, book), False)

    def test_the_empty_one_only_for_nought(self):
        for r in (1, 2, 3, 13, 10 ** 30):
            self.assertIs(book_holds(AUDIENCE, r, ()), False)

    def test_of_another_number(self):
        for r in (0, 1, 3, 4, 10 ** 30):
            self.assertIs(book_holds(AUDIENCE, r, BOOK), False)
        self.assertIs(book_holds(AUDIENCE, 2, BOOK[:1]), False)

    def test_an_entry_wrong(self):
        for book in [
            BOOK[:2], BOOK[1:], (BOOK[0], BOOK[2]), BOOK + BOOK[2:], BOOK[:1] + BOOK, BOOK[:2] + BOOK[1:], BOOK[::-1],
            (BOOK[0], BOOK[2], BOOK[1]), list(BOOK), BOOK[:2] + (list(BOOK[2]),), (((), 0, 0), (((0, 1),), 1, 0), ()),
            BOOK[:2] + ((((1, 1),), 3, 0),), BOOK[:2] + ((((1, 1),), 2, 1),), BOOK[:2] + ((((1, 1),), -1, 0),),
            BOOK[:2] + ((((1, 1),), 2, -1),), BOOK[:2] + ((((1, 1),), 0, 0),), BOOK[:2] + ((((1, 1),), 2, False),),
            BOOK[:2] + ((((1, 1),), True, 0),), BOOK[:2] + ((((1, 1),), 2),), BOOK[:2] + ((((1, 1),), 2, 0, 0),),
            BOOK[:2] + ((((1, 1), (0, 1)), 2, 0),), BOOK[:2] + ((((1, 1), (1, 1)), 2, 0),), BOOK + ((((1, 2),), 2, 0),),
            BOOK[:2] + (([(1, 1)], 2, 0),), BOOK[:2] + ((([1, 1],), 2, 0),), BOOK[:2] + ((((True, 1),), 2, 0),),
            BOOK[:2] + (((1, 1), 2, 0),), BOOK[:2] + ((((1, 1, 0),), 2, 0),), (((), 0, 0),) + BOOK[1:2] + ((((1,),), 2, 0),),
            BOOK + ((((1, 1),), 2, 1),), BOOK[:1] + ((((0, 0),), 0, 0),) + BOOK[1:], ((((),), 0, 0),) + BOOK[1:],
            (((), 0, 0), (((0, 1),), 1, 0), (((1, 1),), "2", 0)), (((0, 0),), 0, 0),
        ]:
            self.assertIs(book_holds(AUDIENCE, 2, book), False, book)

    def test_more_entries_than_needed(self):
        more = tuple(sorted(BOOK + ((((1, 0),), 0, 0),)))
        self.assertIs(book_holds(AUDIENCE, 2, more), True)
        for wrong in ((((1, 0),), 1, 0), (((1, 0), (0, 1)), 0, 0)):
            self.assertIs(book_holds(AUDIENCE, 2, tuple(sorted(BOOK + (wrong,)))), False)

    def test_of_space_and_listeners_together(self):
        # The want (0, 1) is spanned by neither alone.
        audience = Audience(2, 2, (((), ((1, 1),)), (((1, 0),), ((0, 1),))))
        self.assertIs(book_holds(audience, 2, (((), 0, 0), (((1, 1),), 1, 0))), False)
        self.assertIs(book_holds(audience, 2, (((), 1, 0), (((0, 1),), 0, 0), (((1, 1),), 1, 0))), False)

    def test_small_changes(self):
        numbers = Numbers(144)
        found = {True: 0, False: 0}
        for audience in [AUDIENCE, WIDE] + list(some_audiences(145, 120, {2: 4, 3: 3, 5: 2, 7: 2, 11: 2, 13: 2})):
            said = said_least(audience)
            if said > 0:
                book = book_of(audience, said)
                for changed in changed_books(audience, said, book, numbers):
                    for r in (said, said - 1, said + 1):
                        held = book_holds(audience, r, changed)
                        self.assertIs(held, holds_by_trial(audience, r, changed), (audience.listeners, r, changed))
                        self.assertTrue(not held or r <= said)
                        found[held] += 1
        self.assertTrue(found[True] > 200 and found[False] > 1000, found)

    def test_each_entry_of_a_wide_one_is_needed(self):
        said = said_least(WIDE)
        self.assertEqual(said, 2)
        book = book_of(WIDE, said)
        for k in range(len(book)):
            self.assertIs(book_holds(WIDE, said, book[:k] + book[k + 1:]), False)
            for j in range(k):
                turned = list(book)
                turned[j], turned[k] = book[k], book[j]
                self.assertIs(book_holds(WIDE, said, tuple(turned)), False)

    def test_values_of_every_kind(self):
        for audience in (AUDIENCE, Audience(2, 2, ()), Audience(13, 12, ())):
            for value in any_values() + [BOOK, list(BOOK)]:
                for r in (1, 2, 3):
                    held = audience is AUDIENCE and r == 2 and value == BOOK and isinstance(value, tuple)
                    self.assertIs(book_holds(audience, r, value), held, value)
                    for entry in ((((1, 1),), value, 0), (((1, 1),), 2, value), (((1, 1),), 0, value), (value, 3, 0)):
                        held = audience is AUDIENCE and r == 2 and entry == BOOK[2] and is_int(entry[1]) and is_int(entry[2])
                        self.assertIs(book_holds(audience, r, BOOK[:2] + (entry,)), held, entry)
                        self.assertIs(book_holds(audience, r, BOOK[:2] + (list(entry),)), False)
                    self.assertIs(book_holds(audience, r, BOOK + (value,)), False)
                self.assertIs(book_holds(audience, 0, value), isinstance(value, tuple) and value == ())
                if not is_int(value):
                    for book in (BOOK, BOOK[:1], ()):
                        self.assertIs(book_holds(audience, value, book), False)

    def test_of_a_number_that_is_none(self):
        for r in any_values() + [2.0]:
            if not (is_int(r) and r == 2):
                self.assertIs(book_holds(AUDIENCE, r, BOOK), False)
            if not (is_int(r) and r == 0):
                self.assertIs(book_holds(AUDIENCE, r, ()), False)
            if not (is_int(r) and r == 1):
                self.assertIs(book_holds(AUDIENCE, r, BOOK[:1]), False)

    def test_of_any_size(self):
        for p in FIELDS:
            audience = Net(12, ()).audience(p)
            rows = tuple([tuple([int(k == j) for k in range(12)]) for j in range(12)])
            book = tuple([(rows[:k], k, 0) for k in range(12)])
            for r in range(12):
                self.assertIs(book_holds(audience, r, book[:r]), True)
                self.assertIs(book_holds(audience, r + 1, book[:r]), False)
                self.assertIs(book_holds(audience, r, book[:r + 1]), False)
            self.assertIs(book_holds(audience, 12, book), True)
            for k in range(12):
                self.assertIs(book_holds(audience, 12, book[:k] + book[k + 1:]), False)

    def test_of_many_spaces(self):
        # Listener 0 knows all letters but the last: so it leads to each space of one row that has this letter.
        rows = [tuple([int(k == j) for k in range(12)]) for j in range(12)]
        audience = Audience(2, 12, ((tuple(rows[:11]), (rows[11],)), ((), (rows[0],))))
        words = sorted(spanned(2, rows[:11], 12))
        book = (((), 0, 0),) + tuple([((word[:11] + (1,),), 1, 0) for word in words])
        self.assertEqual(len(book), 2049)
        self.assertIs(book_holds(audience, 2, book), True)
        self.assertIs(book_holds(audience, 2, book[:-1]), False)
        self.assertIs(book_holds(audience, 2, book[:1000] + book[1001:]), False)
        self.assertIs(book_holds(audience, 3, book), False)

    def test_of_more_spaces_than_can_be_gone_through(self):
        rows = [tuple([int(k == j) for k in range(12)]) for j in range(12)]
        for p in FIELDS:
            audience = Audience(p, 12, ((tuple(rows[:11]), (rows[11],)),))
            self.assertIs(book_holds(audience, 1, (((), 0, 0),)), True)
            self.assertIs(book_holds(audience, 2, (((), 0, 0),)), False)


if __name__ == "__main__":
    unittest.main()
