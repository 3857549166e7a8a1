"""Point [7]: audiences."""

import unittest

from keptandsaid.audiences import Audience
from keptandsaid.errors import InvalidAudience, InvalidMatrix

from helper import FIELDS, any_values, deep, expect, expect_number, is_int, only_tuples

FIRST = (((1, 0),), ((0, 1),))
SECOND = (((0, 1),), ((1, 0),))
THIRD = (((1, 1),), ((1, 0),))
NOTHING = ((), ())

NO_LISTENERS = [
    None, 0, True, "", "ab", (), [], ((),), ((), (), ()), [(), ()], ([], ()), ((), []), ((), None), (None, ()),
    (((1, 0),), ((0, 1, 1),)), (((1,),), ()), (((2, 0),), ()), ((), ((0, -1),)), (((True, 0),), ()), ([(1, 0)], ()),
    (([1, 0],), ()), ((1, 0), ()), ((), ((0, 1), (0,))), ((), ("01",)), deep((), 10),
    (((1, 0),), ((0, 1),), ((0, 1),)),
]


def expect_part(case, part, place, *args):
    expect(case, InvalidAudience, {"part": part, "place": place}, Audience, *args)


class Making(unittest.TestCase):
    def test_attributes(self):
        for listeners in ((FIRST, SECOND, THIRD), [FIRST, SECOND, THIRD]):
            audience = Audience(2, 2, listeners)
            self.assertEqual((audience.p, audience.size), (2, 2))
            self.assertEqual(audience.listeners, (FIRST, SECOND, THIRD))
            self.assertTrue(only_tuples(audience.listeners))
        audience = Audience(listeners=[FIRST], size=2, p=13)
        self.assertEqual((audience.p, audience.size, audience.listeners), (13, 2, (FIRST,)))

    def test_without_listeners(self):
        for listeners in ((), []):
            audience = Audience(3, 12, listeners)
            self.assertEqual((audience.p, audience.size, audience.listeners), (3, 12, ()))
            self.assertIs(type(audience.listeners), tuple)

    def test_any_field_and_size(self):
        for p in FIELDS:
            for size in range(1, 13):
                pair = (((p - 1,) * size, (0,) * size), ((1,) * size,))
                audience = Audience(p, size, (pair, NOTHING, ((), pair[0])))
                self.assertEqual(audience.listeners, (pair, NOTHING, ((), pair[0])))

    def test_many_listeners(self):
        self.assertEqual(Audience(2, 2, [FIRST] * 20).listeners, (FIRST,) * 20)

    def test_later_changes_have_no_effect(self):
        listeners = [FIRST, SECOND]
        audience = Audience(2, 2, listeners)
        listeners.append(THIRD)
        listeners[0] = NOTHING
        self.assertEqual(audience.listeners, (FIRST, SECOND))
        self.assertEqual(listeners, [NOTHING, SECOND, THIRD])


class WrongMaking(unittest.TestCase):
    def test_field(self):
        for p in any_values() + [4, 6, 9, 17]:
            if not (is_int(p) and p in FIELDS):
                expect_part(self, "field", 0, p, 2, (FIRST,))
                expect_part(self, "field", 0, p, 0, None)

    def test_size(self):
        for size in any_values() + [13, 40]:
            if not (is_int(size) and 1 <= size <= 12):
                expect_part(self, "size", 0, 2, size, ())
                expect_part(self, "size", 0, 2, size, (None,))

    def test_no_sequence(self):
        for listeners in any_values():
            if not isinstance(listeners, (list, tuple)):
                expect_part(self, "listeners", 0, 2, 2, listeners)

    def test_no_listener(self):
        for wrong in NO_LISTENERS:
            expect_part(self, "listeners", 0, 2, 2, (wrong,))
            expect_part(self, "listeners", 0, 2, 2, [wrong, FIRST])
            expect_part(self, "listeners", 1, 2, 2, (FIRST, wrong))
            expect_part(self, "listeners", 2, 2, 2, [FIRST, SECOND, wrong, None])

    def test_values_of_every_kind_as_listeners(self):
        for value in any_values():
            expect_part(self, "listeners", 1, 2, 2, (NOTHING, value, NOTHING))
            if isinstance(value, (list, tuple)) and len(value) > 0:
                expect_part(self, "listeners", 0, 2, 2, value)

    def test_letters_and_columns_fit(self):
        expect_part(self, "listeners", 0, 2, 2, ((((2, 0),), ()),))
        self.assertEqual(len(Audience(3, 2, ((((2, 0),), ()),)).listeners), 1)
        expect_part(self, "listeners", 0, 3, 3, (FIRST,))
        expect_part(self, "listeners", 1, 3, 3, (NOTHING, ((), ((0, 1),))))


class Equality(unittest.TestCase):
    def test_equal(self):
        one = Audience(2, 2, [FIRST, SECOND])
        for other in (one, Audience(2, 2, (FIRST, SECOND)), Audience(2, 2, [FIRST, SECOND])):
            self.assertIs(one == other, True)
            self.assertIs(one != other, False)

    def test_unlike(self):
        one = Audience(2, 2, [FIRST, SECOND])
        for other in (
            Audience(3, 2, [FIRST, SECOND]), Audience(2, 2, [SECOND, FIRST]), Audience(2, 2, [FIRST]),
            Audience(2, 2, []), Audience(2, 3, []), Audience(2, 2, [FIRST, SECOND, SECOND]),
            Audience(2, 2, [FIRST, (((0, 1), (0, 1)), ((1, 0),))]),
        ):
            self.assertIs(one == other, False)
            self.assertIs(one != other, True)
        self.assertIs(Audience(2, 2, ()) == Audience(2, 3, ()), False)
        self.assertIs(Audience(2, 2, ()) == Audience(3, 2, ()), False)
        self.assertIs(Audience(2, 2, ()) != Audience(3, 2, ()), True)

    def test_to_nothing_else(self):
        one = Audience(2, 2, [FIRST])
        for other in (None, 2, True, "", (), (2, 2, (FIRST,)), [one], (one,), one.listeners, Audience):
            self.assertIs(one == other, False)
            self.assertIs(one != other, True)
            self.assertIs(other == one, False)
            self.assertIs(other != one, True)


class Knowing(unittest.TestCase):
    def test_rows_stand_behind_its_own(self):
        audience = Audience(2, 2, (FIRST, SECOND, THIRD))
        changed = audience.knowing(1, ((1, 1), (0, 0)))
        self.assertEqual(changed, Audience(2, 2, (FIRST, (((0, 1), (1, 1), (0, 0)), ((1, 0),)), THIRD)))
        self.assertEqual(audience.knowing(rows=((1, 1), (0, 0)), listener=1), changed)
        self.assertTrue(only_tuples(changed.listeners))
        self.assertEqual(audience.knowing(2, ((1, 0),)).listeners[2], (((1, 1), (1, 0)), ((1, 0),)))
        self.assertEqual(audience.knowing(0, ()), audience)

    def test_it_stays_as_it_was(self):
        audience = Audience(2, 2, (FIRST, SECOND))
        audience.knowing(0, ((1, 1),))
        audience.without_listener(0)
        self.assertEqual(audience, Audience(2, 2, (FIRST, SECOND)))
        for call in (lambda: audience.knowing(5, ()), lambda: audience.knowing(0, None)):
            with self.assertRaises(ValueError):
                call()
        self.assertEqual(audience, Audience(2, 2, (FIRST, SECOND)))

    def test_no_listener(self):
        audience = Audience(2, 2, (FIRST, SECOND, THIRD))
        for listener in any_values():
            if not (is_int(listener) and 0 <= listener < 3):
                expect_number(self, listener, audience.knowing, listener, ((1, 0),))
                expect_number(self, listener, audience.knowing, listener, None)
                expect_number(self, listener, audience.without_listener, listener)
        expect_number(self, 3, audience.knowing, 3, ())
        expect_number(self, 0, Audience(2, 2, ()).knowing, 0, ())
        expect_number(self, 0, Audience(2, 2, ()).without_listener, 0)

    def test_no_matrix(self):
        audience = Audience(2, 2, (FIRST, SECOND))
        for rows in any_values() + [((1,),), ((1, 0, 0),), ((1, 0), (1,)), ((0, 2),), [(1, 0)], ([1, 0],)]:
            if not (isinstance(rows, tuple) and only_tuples(rows) and rows in ((), ((1, 0),))):
                error = expect(self, InvalidMatrix, {"value": rows}, audience.knowing, 0, rows)
                self.assertIs(error.value, rows)
        expect(self, InvalidMatrix, {"value": ((0,) * 13,)}, audience.knowing, 1, ((0,) * 13,))

    def test_letters_of_its_field(self):
        self.assertEqual(Audience(3, 2, (FIRST,)).knowing(0, ((2, 2),)).listeners[0][0], ((1, 0), (2, 2)))
        expect(self, InvalidMatrix, {"value": ((2, 2),)}, Audience(2, 2, (FIRST,)).knowing, 0, ((2, 2),))


class WithoutListener(unittest.TestCase):
    def test_others_in_order(self):
        audience = Audience(5, 2, (FIRST, SECOND, THIRD))
        self.assertEqual(audience.without_listener(0), Audience(5, 2, (SECOND, THIRD)))
        self.assertEqual(audience.without_listener(1), Audience(5, 2, (FIRST, THIRD)))
        self.assertEqual(audience.without_listener(listener=2), Audience(5, 2, (FIRST, SECOND)))
        self.assertEqual(audience.listeners, (FIRST, SECOND, THIRD))
        self.assertEqual(Audience(5, 2, (FIRST,)).without_listener(0), Audience(5, 2, ()))

    def test_of_equal_ones_just_one_goes(self):
        self.assertEqual(Audience(2, 2, (FIRST, FIRST)).without_listener(0), Audience(2, 2, (FIRST,)))


if __name__ == "__main__":
    unittest.main()
