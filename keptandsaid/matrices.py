"""Rows and matrices over a field: point [6]."""

from keptandsaid.basics import is_below, is_size, is_tuple_of
from keptandsaid.errors import InvalidMatrix, Undefined
from keptandsaid.fields import check_field, inverse_of


def is_matrix(value, p, columns):
    """Whether value, which may be any value at all, is a matrix of so many columns."""
    return isinstance(value, tuple) and all([_is_row(row, p, columns) for row in value])


def reduced_rows(p, rows):
    """The one matrix in reduced form that spans the same rows."""
    _check_some_matrix(p, rows)
    return reduced_with(p, (), rows)


def rank_of(p, rows):
    """How many rows the reduced form of rows has."""
    return len(reduced_rows(p, rows))


def in_span(p, rows, row):
    """Whether row is a sum of rows times letters."""
    return not any(rest_of(p, reduced_rows(p, rows), row))


def sum_to(p, rows, row):
    """A letter for each of rows, so that rows times these letters add up to row."""
    _check_some_matrix(p, rows)
    many = len(rows)
    letters = [0] * many
    for equation in reduced_with(p, (), _equations(rows, row)):
        lead = _lead_of(equation)
        if lead == many:
            # Such an equation says that 0 is 1.
            raise Undefined("sum")
        # The letters that lead no equation stay 0, so nothing but the sum counts here.
        letters[lead] = equation[many]
    return tuple(letters)


def zero_rows(p, rows, columns):
    """The reduced matrix that spans all rows whose product with each of rows is 0."""
    reduced = reduced_rows(p, rows)
    leads = [_lead_of(row) for row in reduced]
    free = [column for column in range(columns) if column not in leads]
    return reduced_with(p, (), [_zero_row(p, reduced, columns, column) for column in free])


def products(p, rows, word):
    """The values of rows at word."""
    _check_some_matrix(p, rows)
    return tuple([product_of(p, row, word) for row in rows])


def check_matrix(value, p, columns):
    """Raises an error unless value is a matrix of so many columns."""
    if not is_matrix(value, p, columns):
        raise InvalidMatrix(value)


def one_rows(columns, letters):
    """For each of letters the row with a 1 there and 0 elsewhere."""
    return tuple([tuple([int(column == letter) for column in range(columns)]) for letter in letters])


def reduced_with(p, reduced, rows):
    """The reduced form of a reduced matrix and rows together, also of more than 12 columns."""
    found = reduced
    for row in rows:
        found = _reduced_with_row(p, found, row)
    return found


def rest_of(p, reduced, row):
    """Row less what a reduced matrix spans of it: 0 where its rows lead, and noughts if it spans row."""
    rest = row
    for lead in reduced:
        rest = _cleared(p, rest, lead)
    return rest


def spanned_rows(p, reduced, columns):
    """All rows that a reduced matrix spans, each once; the first is that of noughts."""
    found = [(0,) * columns]
    for row in reduced:
        found = [sum_of(p, one, letter, row) for letter in range(p) for one in found]
    return found


def sum_of(p, one, letter, other):
    """The row one plus letter times the row other."""
    return tuple([(a + letter * b) % p for a, b in zip(one, other)])


def product_of(p, one, other):
    """The sum of the products of the letters of two rows, also of more than 12 columns."""
    return sum([a * b for a, b in zip(one, other)]) % p


def _check_some_matrix(p, rows):
    """Raises an error unless rows is a matrix of the columns of its first row."""
    check_field(p)
    if not isinstance(rows, tuple):
        raise InvalidMatrix(rows)
    if len(rows) > 0:
        first = rows[0]
        if not isinstance(first, tuple) or not is_size(len(first)):
            raise InvalidMatrix(rows)
        check_matrix(rows, p, len(first))


def _is_row(value, p, columns):
    return is_tuple_of(value, columns) and all([is_below(letter, p) for letter in value])


def _reduced_with_row(p, reduced, row):
    rest = rest_of(p, reduced, row)
    if not any(rest):
        return reduced
    lead = _with_one(p, rest)
    # Of two rows of a reduced matrix the one that leads further to the left is the greater tuple.
    return tuple(sorted([lead] + [_cleared(p, other, lead) for other in reduced], reverse=True))


def _with_one(p, row):
    """The multiple of row that begins with a 1 behind noughts."""
    first = [letter for letter in row if letter != 0][0]
    factor = inverse_of(p, first)
    return tuple([factor * letter % p for letter in row])


def _cleared(p, row, lead):
    """Row less the multiple of lead that makes it 0 in the column of the 1 with which lead begins."""
    factor = row[_lead_of(lead)]
    return row if factor == 0 else sum_of(p, row, p - factor, lead)


def _lead_of(row):
    """The column of the 1 with which a row of a reduced matrix begins."""
    return row.index(1)


def _equations(rows, row):
    """For each column what letters for each of rows must fulfil: their factors and, last, the sum."""
    return [tuple([one[column] for one in rows]) + (row[column],) for column in range(len(row))]


def _zero_row(p, reduced, columns, free):
    """The row with 1 at free and 0 at all other columns that lead no row, whose product with each row is 0."""
    found = list(one_rows(columns, (free,))[0])
    for row in reduced:
        found[_lead_of(row)] = -row[free] % p
    return tuple(found)
