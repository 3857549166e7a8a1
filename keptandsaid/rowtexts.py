"""Rows and matrices in the words of texts and lines."""

from keptandsaid.basics import figures_of
from keptandsaid.matrices import is_matrix


def row_text(row):
    """The numbers of a row, joined."""
    return ",".join([str(letter) for letter in row])


def rows_text(rows):
    """The rows, each joined, joined themselves, or the sign for none."""
    if len(rows) == 0:
        return "-"
    return ";".join([row_text(row) for row in rows])


def read_row(p, size, word):
    """The row of size columns that the word tells, or None."""
    row = tuple([figures_of(letter, 2) for letter in word.split(",")])
    return row if is_matrix((row,), p, size) else None


def read_rows(p, size, word):
    """The matrix of size columns that the word tells, or None."""
    if word == "-":
        return ()
    rows = tuple([read_row(p, size, one) for one in word.split(";")])
    return None if None in rows else rows
