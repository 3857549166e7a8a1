"""Stores: which words can be kept, and whom they suffice: point [12]."""

from keptandsaid.basics import is_lot, is_rising_tuple
from keptandsaid.errors import InvalidLot
from keptandsaid.matrices import check_matrix, rank_of, reduced_rows, spanned_rows, zero_rows
from keptandsaid.tellings import first_unserved


def first_unkept(audience, store):
    """The first listener that the store does not keep, with two words of it that show it, or None."""
    check_matrix(store, audience.p, audience.size)
    # This telling is 0 at the words of the store alone. One of the two words that first_unserved tells is that of
    # noughts, so the other one is a word of the store, too.
    return first_unserved(audience, zero_rows(audience.p, store, audience.size))


def told_without(p, store, lot):
    """Whether no two unlike words of the store are alike at all places outside the lot."""
    rank = rank_of(p, store)
    if not _is_lot_of(lot, store):
        raise InvalidLot(lot)
    outside = tuple([_with_noughts(row, lot) for row in store])
    return rank_of(p, outside) == rank


def least_spread(p, store):
    """The least number of letters that are not 0 in a word of the store other than that of noughts, or None."""
    reduced = reduced_rows(p, store)
    if len(reduced) == 0:
        return None
    columns = len(store[0])
    words = spanned_rows(p, reduced, columns)
    return min([columns - word.count(0) for word in words[1:]])


def _is_lot_of(value, store):
    """Whether value, which may be any value at all, is a rising tuple of columns, or of any numbers without a row."""
    if len(store) == 0:
        return is_rising_tuple(value)
    return is_lot(value, len(store[0]))


def _with_noughts(row, lot):
    return tuple([0 if column in lot else letter for column, letter in enumerate(row)])
