"""Rings of a net and the parts that they make: point [9]."""

from keptandsaid.basics import check_lot, is_below


def is_ring(net, value):
    """Whether value, which may be any value at all, is a ring of the net."""
    if not isinstance(value, tuple) or len(value) == 0 or not all([is_below(place, net.size) for place in value]):
        return False
    if len(set(value)) < len(value):
        return False
    # At k = 0 this asks whether the last place knows the first.
    return all([value[k] in net.knows[value[k - 1]] for k in range(len(value))])


def some_ring(net):
    """Some ring, or None if there is none."""
    left = _held_back(net, list(range(net.size)))
    if len(left) == 0:
        return None
    # Each place that is left knows one that is left, so a walk among them comes back to itself.
    walk = []
    place = left[0]
    while place not in walk:
        walk.append(place)
        place = [other for other in net.knows[place] if other in left][0]
    return tuple(walk[walk.index(place):])


def parts_of(net):
    """The greatest lots within which each place leads to each other one; those that a lot leads to are told ahead."""
    left = _unordered_parts(net)
    told = []
    parts = []
    while len(left) > 0:
        # The lots left stand in the order of their least places.
        part = [lot for lot in left if _leads_only_to(net, lot, told + list(lot))][0]
        parts.append(part)
        told.extend(part)
        left = [lot for lot in left if lot != part]
    return tuple(parts)


def can_order(net, lot):
    """Whether there is no ring within the lot."""
    check_lot(lot, net.size)
    return len(_held_back(net, lot)) == 0


def _held_back(net, lot):
    """What is left of the lot when the places that know none of those left are taken away again and again."""
    left = list(lot)
    # Each time some place goes, or no more ever will.
    for _ in range(len(lot)):
        left = [place for place in left if any([other in left for other in net.knows[place]])]
    return left


def _unordered_parts(net):
    """The greatest lots within which each place leads to each other one, in the order of their least places."""
    places = list(range(net.size))
    reached = [_reached_from(net, place) for place in places]
    parts = []
    for place in places:
        part = [other for other in places if other in reached[place] and place in reached[other]]
        if part[0] == place:
            parts.append(tuple(part))
    return parts


def _reached_from(net, place):
    """The places to which this one leads by no, one or several arcs."""
    reached = [place]
    at = 0
    while at < len(reached):
        reached = reached + [other for other in net.knows[reached[at]] if other not in reached]
        at = at + 1
    return reached


def _leads_only_to(net, lot, places):
    """Whether all arcs of the lot lead to these places."""
    return all([other in places for place in lot for other in net.knows[place]])
