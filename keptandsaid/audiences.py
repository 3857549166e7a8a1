"""Audiences: listeners that know some sums of letters and want others: point [7]."""

from keptandsaid.basics import check_below, is_below, is_sequence, is_size, is_tuple_of
from keptandsaid.errors import InvalidAudience
from keptandsaid.fields import is_field
from keptandsaid.matrices import check_matrix, is_matrix


class Audience:
    """Listeners, each a pair (knows, wants) of matrices of size columns."""

    def __init__(self, p, size, listeners):
        _check_audience(p, size, listeners)
        self.p = p
        self.size = size
        self.listeners = tuple(listeners)

    def __eq__(self, other):
        return (
            isinstance(other, Audience)
            and self.p == other.p
            and self.size == other.size
            and self.listeners == other.listeners
        )

    def knowing(self, listener, rows):
        """The audience in which this listener knows, behind its own, these rows too."""
        check_below(listener, len(self.listeners))
        check_matrix(rows, self.p, self.size)
        knows, wants = self.listeners[listener]
        changed = list(self.listeners)
        changed[listener] = (knows + rows, wants)
        return Audience(self.p, self.size, changed)

    def without_listener(self, listener):
        """The audience of the others, in order."""
        check_below(listener, len(self.listeners))
        others = [pair for number, pair in enumerate(self.listeners) if number != listener]
        return Audience(self.p, self.size, others)


def is_listener(value, p, size):
    """Whether value, which may be any value at all, is a pair of matrices of size columns."""
    return is_tuple_of(value, 2) and all([is_matrix(part, p, size) for part in value])


def is_want(audience, listener, row):
    """Whether listener is the number of a listener and row that of a row of its wants; both may be any values."""
    if not is_below(listener, len(audience.listeners)):
        return False
    knows, wants = audience.listeners[listener]
    return is_below(row, len(wants))


def _check_audience(p, size, listeners):
    if not is_field(p):
        raise InvalidAudience("field", 0)
    if not is_size(size):
        raise InvalidAudience("size", 0)
    if not is_sequence(listeners):
        raise InvalidAudience("listeners", 0)
    for number, listener in enumerate(listeners):
        if not is_listener(listener, p, size):
            raise InvalidAudience("listeners", number)
