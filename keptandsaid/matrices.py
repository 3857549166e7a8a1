"""Rows and matrices over a field: point [6]."""

from keptandsaid.basics import is_below, is_size
from keptandsaid.errors import InvalidMatrix, InvalidNumber, Undefined
from keptandsaid.fields import inverse_of, is_field


def is_matrix(value, p, columns):
    """Whether value, which may be any value at all, is a matrix of so many columns."""
    return isinstance(value, tuple) and all([_is_row(row, p, columns) for row in value])


def reduced_rows(p, rows):
    """The one matrix in reduced form that spans the same rows."""
    _check_matrix(p, rows)
    return _reduced(p, rows)


def rank_of(p, rows):
    """How many rows the reduced form of rows has."""
    _check_matrix(p, rows)
    return len(_reduced(p, rows))


def in_span(p, rows, row):
    """Whether row is a sum of rows times letters."""
    _check_matrix(p, rows)
    return len(_reduced(p, rows + (row,))) == len(_reduced(p, rows))


def sum_to(p, rows, row):
    """A letter for each of rows, so that rows times these letters add up to row."""
    _check_matrix(p, rows)
    many = len(rows)
    letters = [0] * many
    for equation in _reduced(p, _equations(rows, row)):
        lead = _lead_of(equation)
        if lead == many:
            # Such an equation says that 0 is 1.
            raise Undefined("sum")
        # The letters that lead no equation stay 0, so nothing but the sum counts here.
        letters[lead] = equation[many]
    return tuple(letters)


def zero_rows(p, rows, columns):
    """The reduced matrix that spans all rows whose product with each of rows is 0."""
    _check_matrix(p, rows)
    reduced = _reduced(p, rows)
    leads = [_lead_of(row) for row in reduced]
    free = [column for column in range(columns) if column not in leads]
    return _reduced(p, tuple([_zero_row(p, reduced, columns, column) for column in free]))


def products(p, rows, word):
    """The values of rows at word."""
    _check_matrix(p, rows)
    return tuple([_product(p, row, word) for row in rows])


def one_rows(columns, letters):
    """For each of letters the row with a 1 there and 0 elsewhere."""
    return tuple([tuple([int(column == letter) for column in range(columns)]) for letter in letters])


def _check_matrix(p, rows):
    if not is_field(p):
        raise InvalidNumber(p)
    if not _is_some_matrix(rows, p):
        raise InvalidMatrix(rows)


def _is_some_matrix(value, p):
    """Whether value is a matrix of the columns of its first row."""
    if not isinstance(value, tuple):
        return False
    if len(value) == 0:
        return True
    first = value[0]
    return isinstance(first, tuple) and is_size(len(first)) and is_matrix(value, p, len(first))


def _is_row(value, p, columns):
    return isinstance(value, tuple) and len(value) == columns and all([is_below(letter, p) for letter in value])


def _product(p, one, other):
    return sum([a * b for a, b in zip(one, other)]) % p


def _reduced(p, rows):
    """reduced_rows of rows that are known to be rows, also of more than 12 letters."""
    columns = len(rows[0]) if len(rows) > 0 else 0
    done = []
    left = rows
    for column in range(columns):
        filled = [row for row in left if row[column] != 0]
        if len(filled) > 0:
            lead = _with_one(p, filled[0], column)
            done = [_cleared(p, row, lead, column) for row in done]
            done.append(lead)
            # This makes noughts of the row of which lead was made, so it leads no other column.
            left = [_cleared(p, row, lead, column) for row in left]
    return tuple(done)


def _with_one(p, row, column):
    """The multiple of row that has a 1 in this column."""
    factor = inverse_of(p, row[column])
    return tuple([factor * letter % p for letter in row])


def _cleared(p, row, lead, column):
    """Row less the multiple of lead that makes it 0 in this column, where lead has a 1."""
    factor = row[column]
    return tuple([(letter - factor * other) % p for letter, other in zip(row, lead)])


def _lead_of(row):
    """The column of the first letter of row that is not 0."""
    return [column for column, letter in enumerate(row) if letter != 0][0]


def _equations(rows, row):
    """For each column what letters for each of rows must fulfil: their factors and, last, the sum."""
    return tuple([tuple([one[column] for one in rows]) + (row[column],) for column in range(len(row))])


def _zero_row(p, reduced, columns, free):
    """The row with 1 at free and 0 at all other columns that lead no row, whose product with each row is 0."""
    found = list(one_rows(columns, (free,))[0])
    for row in reduced:
        found[_lead_of(row)] = -row[free] % p
    return tuple(found)
