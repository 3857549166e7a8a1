"""Nets: each place wants its own letter and knows those of some others: point [8]."""

from keptandsaid.audiences import Audience
from keptandsaid.basics import check_below, is_below, is_lot, is_sequence, is_size, is_tuple_of
from keptandsaid.errors import InvalidLot, InvalidNet, Undefined
from keptandsaid.fields import check_field
from keptandsaid.matrices import one_rows


class Net:
    """Places 0 to size - 1, and arcs (i, j): place i knows the letter of place j."""

    def __init__(self, size, arcs):
        _check_net(size, arcs)
        self.size = size
        self.arcs = tuple(arcs)
        self.knows = tuple([tuple([j for i, j in arcs if i == place]) for place in range(size)])

    def __eq__(self, other):
        return isinstance(other, Net) and self.size == other.size and self.arcs == other.arcs

    def audience(self, p):
        """The audience in which each listener wants the letter of its place and knows as the place does."""
        check_field(p)
        listeners = [
            (one_rows(self.size, known), one_rows(self.size, (place,)))
            for place, known in enumerate(self.knows)
        ]
        return Audience(p, self.size, listeners)

    def turned(self):
        """The net with all arcs the other way."""
        return Net(self.size, sorted([(j, i) for i, j in self.arcs]))

    def with_arc(self, i, j):
        """The net with one arc more."""
        self._check_places((i, j))
        if i == j or (i, j) in self.arcs:
            raise Undefined("arc")
        return Net(self.size, sorted([*self.arcs, (i, j)]))

    def without_arc(self, i, j):
        """The net with one arc less."""
        self._check_places((i, j))
        if (i, j) not in self.arcs:
            raise Undefined("arc")
        return Net(self.size, [arc for arc in self.arcs if arc != (i, j)])

    def without_place(self, i):
        """The net of the other places; those behind it move up by one."""
        self._check_places((i,))
        if self.size == 1:
            raise Undefined("place")
        return self._of_places([place for place in range(self.size) if place != i])

    def within(self, lot):
        """The net of the places of a lot, with the arcs among them."""
        if not is_lot(lot, self.size) or len(lot) == 0:
            raise InvalidLot(lot)
        return self._of_places(lot)

    def renamed(self, order):
        """The net whose place k is place order[k] of this one."""
        if not _is_order(order, self.size):
            raise InvalidLot(order)
        return self._of_places(order)

    def _check_places(self, places):
        for place in places:
            check_below(place, self.size)

    def _of_places(self, places):
        """The net whose place k is places[k], with the arcs among these."""
        many = len(places)
        pairs = [(i, j) for i in range(many) for j in range(many)]
        return Net(many, [(i, j) for i, j in pairs if (places[i], places[j]) in self.arcs])


def _check_net(size, arcs):
    if not is_size(size):
        raise InvalidNet("size", 0)
    if not is_sequence(arcs):
        raise InvalidNet("arcs", 0)
    for number, arc in enumerate(arcs):
        if not _is_arc(arc, size) or (number > 0 and arc <= arcs[number - 1]):
            raise InvalidNet("arcs", number)


def _is_arc(value, size):
    """Whether value, which may be any value at all, is a pair of two unlike places."""
    return is_tuple_of(value, 2) and all([is_below(place, size) for place in value]) and value[0] != value[1]


def _is_order(value, size):
    """Whether value, which may be any value at all, is a tuple of all places, each once."""
    if not isinstance(value, tuple) or not all([is_below(place, size) for place in value]):
        return False
    return sorted(value) == list(range(size))
