"""Books of spaces, which show that no fewer letters can be said: point [14]."""

from keptandsaid.audiences import is_want
from keptandsaid.basics import is_number, is_rising, is_tuple_of, power_of
from keptandsaid.errors import InvalidNumber, Undefined
from keptandsaid.least import check_few_spaces, searched_levels, spaces_behind
from keptandsaid.matrices import is_matrix, reduced_rows, reduced_with, rest_of


def book_of(audience, r):
    """Some book for the number r."""
    check_few_spaces(audience.p, audience.size)
    if not is_number(r):
        raise InvalidNumber(r)
    levels, telling = searched_levels(audience, r)
    if telling is not None and len(telling) < r:
        raise Undefined("book")
    entries = [
        (space, listener, row)
        for level in levels[:r]
        for space, (_, listener, row) in level.items()
    ]
    return tuple(sorted(entries))


def book_holds(audience, r, book):
    """Whether r is a number and book one for it; both may be any values at all."""
    if not is_number(r) or not isinstance(book, tuple):
        return False
    if r == 0:
        return len(book) == 0
    if not all([_is_entry(audience, r, entry) for entry in book]):
        return False
    spaces = [entry[0] for entry in book]
    # As the entries rise, no space but the first can be ().
    if not is_rising(spaces) or () not in spaces[:1]:
        return False
    stand = {space: True for space in spaces}
    for entry in book:
        if len(entry[0]) < r - 1 and not _leads_on(audience, entry, stand):
            return False
    return True


def _is_entry(audience, r, value):
    """Whether value, which may be any value at all, may be an entry of a book for r, whatever else stands there."""
    if not is_tuple_of(value, 3):
        return False
    space, listener, row = value
    p = audience.p
    if not is_matrix(space, p, audience.size) or len(space) >= r or reduced_rows(p, space) != space:
        return False
    if not is_want(audience, listener, row):
        return False
    knows, wants = audience.listeners[listener]
    return any(rest_of(p, reduced_with(p, space, knows), wants[row]))


def _leads_on(audience, entry, stand):
    """Whether all the spaces that this entry asks for stand in the book."""
    space, listener, row = entry
    knows, wants = audience.listeners[listener]
    known = reduced_with(audience.p, (), knows)
    added = len(reduced_with(audience.p, space, known)) - len(space)
    # They are all unlike, so that more of them than entries need not be gone through.
    if power_of(audience.p, added) > len(stand):
        return False
    return all([longer in stand for longer in spaces_behind(audience.p, space, known, wants[row])])
