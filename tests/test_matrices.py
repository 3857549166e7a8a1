"""Point [6]: matrices."""

import itertools
import unittest

from keptandsaid.errors import InvalidMatrix, Undefined
from keptandsaid.fields import is_field
from keptandsaid.matrices import in_span, is_matrix, products, rank_of, reduced_rows, sum_to, zero_rows

from helper import FIELDS, Numbers, added_up, any_values, deep, expect, expect_number, is_int, only_tuples, product_of
from helper import spanned, words_of

# Each is no matrix over 2, whatever the number of columns, when it is passed to what raises.
NO_MATRICES = [
    None, True, 0, 1, -3, "", "10", [], [(1, 0)], ([1, 0],), ((1, 0), [0, 1]), [[1, 0]], (1, 0), ((1, 0), (1,)),
    ((1,), (1, 0)), ((1, 0), (0, 1, 1)), ((),), ((), ()), ((0,) * 13,), ((1,) * 13, (0,) * 13), ((2, 0),), ((-1, 0),),
    ((1, 0), (0, 2)), ((True, False),), ((1, 0), (0, True)), ((1, None),), (("1", "0"),), ("10",), (None,), ((1, 0), None),
    ((1, 0), 5), ((1, (0,)),), (((1, 0),),), deep(1, 10), deep((), 10), ((10 ** 30, 0),),
]


def some_matrices(seed, rounds, fields=FIELDS, columns=6, rows=6):
    """Matrices over several fields, many of whose rows are noughts, doubled or sums of rows ahead."""
    numbers = Numbers(seed)
    for _ in range(rounds):
        p = fields[numbers.below(len(fields))]
        width = 1 + numbers.below(columns)
        matrix = list(numbers.matrix(p, numbers.below(rows), width))
        if matrix and numbers.below(2):
            one = matrix[numbers.below(len(matrix))]
            other = matrix[numbers.below(len(matrix))]
            letter = numbers.below(p)
            matrix.append(tuple((a + letter * b) % p for a, b in zip(one, other)))
        if numbers.below(4) == 0:
            matrix.insert(numbers.below(len(matrix) + 1), (0,) * width)
        yield p, width, tuple(matrix)


def small_matrices(seed, rounds):
    """Matrices whose words can all be gone through."""
    for p, width, rows in some_matrices(seed, rounds):
        if p ** width <= 400:
            yield p, width, rows


def is_reduced(rows):
    leads = []
    for row in rows:
        filled = [k for k, letter in enumerate(row) if letter != 0]
        if not filled or row[filled[0]] != 1:
            return False
        leads.append(filled[0])
    if any(leads[k] >= leads[k + 1] for k in range(len(leads) - 1)):
        return False
    return all(rows[k][lead] == (1 if k == at else 0) for at, lead in enumerate(leads) for k in range(len(rows)))


class IsMatrix(unittest.TestCase):
    def test_matrices(self):
        for value, p, columns in [
            ((), 2, 1), ((), 13, 12), (((0,),), 2, 1), (((1,), (0,), (1,)), 2, 1), (((1, 0),), 2, 2),
            (((0,) * 12,), 2, 12), (((12,) * 12, (0,) * 12), 13, 12), (((2, 1, 0), (0, 0, 0)), 3, 3),
            (((1, 0),) * 60, 2, 2),
        ]:
            self.assertIs(is_matrix(value, p, columns), True, value)
            self.assertIs(is_matrix(columns=columns, value=value, p=p), True)

    def test_letters_are_below_p(self):
        for p in FIELDS:
            for letter in range(-2, 20):
                self.assertIs(is_matrix(((0, letter),), p, 2), 0 <= letter < p)
                self.assertIs(is_matrix(((letter, 0), (0, 0)), p, 2), 0 <= letter < p)

    def test_columns(self):
        for many in range(0, 15):
            for columns in range(1, 13):
                self.assertIs(is_matrix(((1,) * many,), 2, columns), many == columns)
                self.assertIs(is_matrix(((0,) * columns, (1,) * many), 2, columns), many == columns)

    def test_no_matrices(self):
        for value in NO_MATRICES:
            for columns in (1, 2, 12):
                self.assertIs(is_matrix(value, 2, columns), False, value)

    def test_values_of_every_kind(self):
        for value in any_values():
            expected = value == () if isinstance(value, tuple) else False
            if value == ((1, 0),) and isinstance(value, tuple):
                expected = all(is_int(letter) for letter in value[0])
            self.assertIs(is_matrix(value, 2, 2), expected, value)


class Errors(unittest.TestCase):
    CALLS = [
        ("reduced_rows", reduced_rows, ()),
        ("rank_of", rank_of, ()),
        ("in_span", in_span, ((0, 0),)),
        ("sum_to", sum_to, ((1, 1),)),
        ("zero_rows", zero_rows, (2,)),
        ("products", products, ((1, 0),)),
    ]

    def test_no_field(self):
        for name, call, rest in self.CALLS:
            for p in any_values() + [4, 6, 9, 17]:
                if not is_field(p):
                    for rows in (((1, 0),), (), None, [(1, 0)], ((1, 0), (1,))):
                        expect_number(self, p, call, p, rows, *rest)

    def test_no_matrix(self):
        for name, call, rest in self.CALLS:
            for rows in NO_MATRICES:
                error = expect(self, InvalidMatrix, {"value": rows}, call, 2, rows, *rest)
                self.assertIs(error.value, rows)

    def test_values_of_every_kind(self):
        fine = [(), ((1, 0),)]
        for name, call, rest in self.CALLS:
            for rows in any_values():
                if not (isinstance(rows, tuple) and rows in fine and only_tuples(rows)):
                    error = expect(self, InvalidMatrix, {"value": rows}, call, 2, rows, *rest)
                    self.assertIs(error.value, rows)

    def test_letters_depend_on_p(self):
        for p in FIELDS:
            rows = ((0, p),)
            for name, call, rest in self.CALLS:
                expect(self, InvalidMatrix, {"value": rows}, call, p, rows, *rest)
            self.assertEqual(rank_of(p, ((0, p - 1),)), 1)

    def test_a_matrix_ahead_of_a_sum(self):
        expect(self, InvalidMatrix, {"value": ((1, 2),)}, sum_to, 2, ((1, 2),), (0, 1))
        expect_number(self, 4, sum_to, 4, ((1, 0),), (0, 1))
        expect(self, Undefined, {"what": "sum"}, sum_to, 2, ((1, 0),), (0, 1))


class ReducedRows(unittest.TestCase):
    def test_told_ones(self):
        for p, rows, expected in [
            (2, (), ()),
            (2, ((0,),), ()),
            (13, ((0,) * 12,) * 3, ()),
            (7, ((3,),), ((1,),)),
            (2, ((1, 1), (1, 0)), ((1, 0), (0, 1))),
            (3, ((0, 2, 1), (0, 1, 1)), ((0, 1, 0), (0, 0, 1))),
            (5, ((2, 4, 1), (1, 2, 0)), ((1, 2, 0), (0, 0, 1))),
            (2, ((0, 1, 1), (1, 0, 1), (1, 1, 0)), ((1, 0, 1), (0, 1, 1))),
            (3, ((0, 0, 0), (0, 0, 2)), ((0, 0, 1),)),
            (11, ((0, 1, 5), (1, 7, 2)), ((1, 0, (2 - 35) % 11), (0, 1, 5))),
            (2, ((0,) * 11 + (1,),), ((0,) * 11 + (1,),)),
        ]:
            self.assertEqual(reduced_rows(p, rows), expected)
            self.assertEqual(reduced_rows(rows=rows, p=p), expected)
            self.assertEqual(rank_of(p, rows), len(expected))
            self.assertEqual(rank_of(rows=rows, p=p), len(expected))

    def test_form_and_span(self):
        for p, width, rows in small_matrices(1, 900):
            reduced = reduced_rows(p, rows)
            self.assertTrue(is_matrix(reduced, p, width))
            self.assertTrue(only_tuples(reduced))
            self.assertTrue(is_reduced(reduced), (p, rows, reduced))
            self.assertEqual(spanned(p, reduced, width), spanned(p, rows, width))
            self.assertEqual(p ** rank_of(p, rows), len(spanned(p, rows, width)))

    def test_all_of_two_rows_over_two_and_three(self):
        for p, width in ((2, 3), (3, 2)):
            for rows in itertools.product(words_of(p, width), repeat=2):
                reduced = reduced_rows(p, rows)
                self.assertTrue(is_reduced(reduced))
                self.assertEqual(spanned(p, reduced, width), spanned(p, rows, width))

    def test_equal_spans_have_equal_ones(self):
        for p, width, rows in some_matrices(2, 300, columns=12):
            reduced = reduced_rows(p, rows)
            self.assertTrue(is_reduced(reduced))
            self.assertEqual(reduced_rows(p, reduced), reduced)
            self.assertEqual(reduced_rows(p, rows[::-1]), reduced)
            self.assertEqual(reduced_rows(p, rows + rows), reduced)

    def test_great_ones(self):
        numbers = Numbers(3)
        for p in FIELDS:
            rows = numbers.matrix(p, 40, 12)
            self.assertTrue(is_reduced(reduced_rows(p, rows)))
            self.assertEqual(rank_of(p, rows), 12)


class Spans(unittest.TestCase):
    def test_in_span_and_sum_to(self):
        for p, width, rows in small_matrices(4, 400):
            inside = spanned(p, rows, width)
            for row in words_of(p, width):
                self.assertIs(in_span(p, rows, row), row in inside)
                if row in inside:
                    letters = sum_to(p, rows, row)
                    self.assertIs(type(letters), tuple)
                    self.assertEqual(len(letters), len(rows))
                    self.assertTrue(all([is_int(letter) and 0 <= letter < p for letter in letters]))
                    self.assertEqual(added_up(p, rows, letters, width), row)
                else:
                    expect(self, Undefined, {"what": "sum"}, sum_to, p, rows, row)

    def test_of_no_rows(self):
        for p in FIELDS:
            for width in (1, 2, 12):
                self.assertIs(in_span(p, (), (0,) * width), True)
                self.assertEqual(sum_to(p, (), (0,) * width), ())
                self.assertIs(in_span(p, (), (0,) * (width - 1) + (1,)), False)
                expect(self, Undefined, {"what": "sum"}, sum_to, p, (), (0,) * (width - 1) + (1,))

    def test_noughts_are_always_spanned(self):
        self.assertIs(in_span(2, ((0, 0),), (0, 0)), True)
        self.assertIs(in_span(2, ((0, 0),), (0, 1)), False)
        self.assertIs(in_span(5, ((3, 1),), (0, 0)), True)

    def test_sums_of_great_ones(self):
        for p, width, rows in some_matrices(5, 200, columns=12, rows=40):
            numbers = Numbers(len(rows))
            row = added_up(p, rows, [numbers.below(p) for _ in rows], width)
            self.assertIs(in_span(p, rows, row), True)
            self.assertEqual(added_up(p, rows, sum_to(p, rows, row), width), row)

    def test_by_name(self):
        self.assertIs(in_span(row=(1, 1), rows=((1, 0), (0, 1)), p=2), True)
        self.assertEqual(sum_to(row=(1, 1), rows=((1, 0), (0, 1)), p=2), (1, 1))
        self.assertEqual(sum_to(3, ((2, 0), (0, 1)), (1, 2)), (2, 2))


class ZeroRows(unittest.TestCase):
    def test_told_ones(self):
        self.assertEqual(zero_rows(2, (), 3), ((1, 0, 0), (0, 1, 0), (0, 0, 1)))
        self.assertEqual(zero_rows(2, ((0, 0),), 2), ((1, 0), (0, 1)))
        self.assertEqual(zero_rows(13, ((5,),), 1), ())
        self.assertEqual(zero_rows(13, (), 1), ((1,),))
        self.assertEqual(zero_rows(3, ((1, 1, 1),), 3), ((1, 0, 2), (0, 1, 2)))
        self.assertEqual(zero_rows(5, ((1, 2),), 2), ((1, 2),))
        self.assertEqual(zero_rows(2, ((0, 1),), 2), ((1, 0),))
        self.assertEqual(zero_rows(columns=2, rows=((1, 0),), p=2), ((0, 1),))

    def test_they_span_all_rows_of_product_nought(self):
        for p, width, rows in small_matrices(6, 700):
            found = zero_rows(p, rows, width)
            self.assertTrue(is_matrix(found, p, width))
            self.assertTrue(is_reduced(found))
            expected = {word for word in words_of(p, width) if all(product_of(p, row, word) == 0 for row in rows)}
            self.assertEqual(spanned(p, found, width), expected)

    def test_of_twelve_columns(self):
        for p, width, rows in some_matrices(7, 150, columns=12, rows=14):
            found = zero_rows(p, rows, width)
            self.assertTrue(is_reduced(found))
            self.assertEqual(len(found), width - rank_of(p, rows))
            self.assertTrue(all([product_of(p, row, word) == 0 for row in rows for word in found]))


class Products(unittest.TestCase):
    def test_told_ones(self):
        self.assertEqual(products(2, (), (1, 0)), ())
        self.assertEqual(products(2, ((1, 1), (0, 1), (0, 0)), (1, 1)), (0, 1, 0))
        self.assertEqual(products(13, ((12,) * 12,), (12,) * 12), (12,))
        self.assertEqual(products(word=(2, 2), rows=((1, 2),), p=3), (0,))

    def test_values(self):
        for p, width, rows in some_matrices(8, 300, columns=12):
            word = Numbers(width).matrix(p, 1, width)[0]
            found = products(p, rows, word)
            self.assertTrue(only_tuples(found))
            self.assertEqual(found, tuple([product_of(p, row, word) for row in rows]))


class Edges(unittest.TestCase):
    def test_one_and_twelve_columns(self):
        for p in FIELDS:
            self.assertEqual(rank_of(p, ((0,), (1,))), 1)
            rows = tuple(tuple(int(k == j) for j in range(12)) for k in range(12))
            self.assertEqual(reduced_rows(p, rows), rows)
            self.assertEqual(zero_rows(p, rows, 12), ())
            for k in range(12):
                self.assertEqual(sum_to(p, rows, rows[k]), rows[k])
                others = rows[:k] + rows[k + 1:]
                self.assertIs(in_span(p, others, rows[k]), False)
                self.assertEqual(zero_rows(p, others, 12), (rows[k],))

    def test_equal_calls_return_equal_results(self):
        for p, width, rows in some_matrices(9, 60):
            self.assertEqual(reduced_rows(p, rows), reduced_rows(p, rows))
            self.assertEqual(zero_rows(p, rows, width), zero_rows(p, rows, width))
            self.assertEqual(sum_to(p, rows, (0,) * width), sum_to(p, rows, (0,) * width))


if __name__ == "__main__":
    unittest.main()
