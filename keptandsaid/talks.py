"""Telling over a line that loses: point [22]."""

from keptandsaid.audiences import Audience
from keptandsaid.basics import check_below, is_lot, is_tuple_of
from keptandsaid.errors import InvalidLosses, InvalidWord
from keptandsaid.least import check_few_spaces, least_telling
from keptandsaid.matrices import is_matrix, product_of, products, reduced_rows, reduced_with, sum_to
from keptandsaid.tellings import serves


class Talk:
    """Rounds of rows that are said to all listeners, each of which may lose some."""

    def __init__(self, audience, word):
        check_few_spaces(audience.p, audience.size)
        if not is_matrix((word,), audience.p, audience.size):
            raise InvalidWord(word)
        self.spoken = 0
        self.ended = 0
        self._first = audience
        self._word = word
        self._heard = [() for _ in audience.listeners]
        # The audience by now: what each listener knows and has heard, reduced, and what it wants.
        self._now = Audience(audience.p, audience.size, [
            (reduced_rows(audience.p, knows), wants) for knows, wants in audience.listeners
        ])
        self._rows = least_telling(self._now)

    def say(self):
        """The rows of this round."""
        return self._rows

    def hear(self, losses):
        """Ends the round, whose rows each listener hears but those of its losses; tells who is served now."""
        if not self._are_losses(losses):
            raise InvalidLosses(losses)
        if len(self._rows) > 0:
            self._end_round(losses)
        return tuple([listener for listener in range(len(self._heard)) if serves(self._now, (), listener)])

    def lacking(self):
        """How many rows this round has."""
        return len(self._rows)

    def heard(self, listener):
        """The rows that this listener has heard, each time, with their values."""
        check_below(listener, len(self._heard))
        return self._heard[listener]

    def got(self, listener):
        """The values of what this listener wants, out of what it knows and has heard, or None if it is not served."""
        check_below(listener, len(self._heard))
        if not serves(self._now, (), listener):
            return None
        knows, wants = self._first.listeners[listener]
        p = self._first.p
        rows = knows + tuple([row for row, value in self._heard[listener]])
        told = products(p, knows, self._word) + tuple([value for row, value in self._heard[listener]])
        return tuple([product_of(p, sum_to(p, rows, want), told) for want in wants])

    def _are_losses(self, value):
        """Whether value, which may be any value at all, tells for each listener which rows of this round it loses."""
        return is_tuple_of(value, len(self._heard)) and all([is_lot(lost, len(self._rows)) for lost in value])

    def _end_round(self, losses):
        p = self._now.p
        pairs = list(zip(self._rows, products(p, self._rows, self._word)))
        listeners = []
        for listener, lost in enumerate(losses):
            arrived = [pair for place, pair in enumerate(pairs) if place not in lost]
            self._heard[listener] = self._heard[listener] + tuple(arrived)
            known, wants = self._now.listeners[listener]
            listeners.append((reduced_with(p, known, [row for row, value in arrived]), wants))
        self._now = Audience(p, self._now.size, listeners)
        self.spoken = self.spoken + len(self._rows)
        self.ended = self.ended + 1
        self._rows = least_telling(self._now)
