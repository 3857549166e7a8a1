"""Bounds of what must be said over a net, and tellings that show them: point [16]."""

from keptandsaid.basics import is_lot
from keptandsaid.errors import TooMany, Undefined
from keptandsaid.fields import check_field
from keptandsaid.matrices import one_rows, sum_of
from keptandsaid.rings import can_order, is_ring, some_ring

MOST_PLACES = 8


def ringless_lot(net):
    """The first, ascending, of the lots of most places without a ring within them."""
    _check_few_places(net)
    # Of several lots of most places max tells the first.
    return max([lot for lot in _lots_of(net) if can_order(net, lot)], key=len)


def rings_apart(net):
    """Some tuple of as many rings as there can be of which no two have a place in common."""
    _check_few_places(net)
    # For the places that some of the rings take together, the most rings that do so.
    found = {(): ()}
    for ring in _least_rings(net):
        for places, rings in list(found.items()):
            if not any([place in places for place in ring]):
                taken = tuple(sorted(places + ring))
                if len(rings) + 1 > len(found.get(taken, ())):
                    found[taken] = rings + (ring,)
    return max(list(found.values()), key=len)


def friend_lots(net):
    """Some tuple of as few lots as can be, with each place in just one, whose places know one another."""
    _check_few_places(net)
    found = [()]
    for place in range(net.size):
        found = [longer for lots in found for longer in _lots_with(net, lots, place)]
    return min(found, key=len)


def telling_by_rings(net, p, rings):
    """The telling that spares a row for each of rings, of which no two have a place in common."""
    _check_few_places(net)
    check_field(p)
    if not _are_rings_apart(net, rings):
        raise Undefined("rings")
    telling = ()
    for ring in rings:
        ones = one_rows(net.size, ring)
        telling = telling + tuple([sum_of(p, ones[k], p - 1, ones[k + 1]) for k in range(len(ring) - 1)])
    taken = [place for ring in rings for place in ring]
    return telling + one_rows(net.size, [place for place in range(net.size) if place not in taken])


def telling_by_friends(net, p, lots):
    """The telling of a row for each of lots, whose places know one another."""
    _check_few_places(net)
    check_field(p)
    if not _are_friend_lots(net, lots):
        raise Undefined("lots")
    return tuple([tuple([int(place in lot) for place in range(net.size)]) for lot in lots])


def _check_few_places(net):
    if net.size > MOST_PLACES:
        raise TooMany("places")


def _lots_of(net):
    """All lots of the net's places, ascending."""
    lots = [()]
    for place in range(net.size):
        lots = lots + [lot + (place,) for lot in lots]
    return sorted(lots)


def _least_rings(net):
    """For each lot with a ring within it, but none within a smaller part of it, this ring.

    Of any rings apart each has the places of such a lot among its own, so no other rings are needed.
    """
    found = []
    for lot in _lots_of(net):
        parts = [tuple([other for other in lot if other != place]) for place in lot]
        if not can_order(net, lot) and all([can_order(net, part) for part in parts]):
            found.append(tuple([lot[k] for k in some_ring(net.within(lot))]))
    return found


def _lots_with(net, lots, place):
    """The tuples of lots that come of lots if place stands alone or joins a lot all of whose places are its friends."""
    found = [lots + ((place,),)]
    for k, lot in enumerate(lots):
        joined = lot + (place,)
        if _are_friends(net, joined):
            found.append(lots[:k] + (joined,) + lots[k + 1:])
    return found


def _are_friends(net, lot):
    """Whether all places of the lot know one another."""
    return all([other in net.knows[place] for place in lot for other in lot if other != place])


def _are_rings_apart(net, value):
    """Whether value, which may be any value at all, is a tuple of rings, no two with a place in common."""
    if not isinstance(value, tuple) or not all([is_ring(net, ring) for ring in value]):
        return False
    places = [place for ring in value for place in ring]
    return len(set(places)) == len(places)


def _are_friend_lots(net, value):
    """Whether value, which may be any value at all, is a tuple of lots as friend_lots tells them, few or many."""
    if not isinstance(value, tuple) or not all([_is_friend_lot(net, lot) for lot in value]):
        return False
    return sorted([place for lot in value for place in lot]) == list(range(net.size))


def _is_friend_lot(net, value):
    return is_lot(value, net.size) and len(value) > 0 and _are_friends(net, value)
