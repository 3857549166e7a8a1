"""Ladders, which show in few steps that no fewer letters can be said: point [15]."""

from keptandsaid.audiences import is_want
from keptandsaid.basics import is_tuple_of
from keptandsaid.errors import Undefined
from keptandsaid.fields import check_field
from keptandsaid.matrices import is_matrix, one_rows, reduced_rows, reduced_with, rest_of
from keptandsaid.rings import can_order


def ladder_holds(audience, ladder):
    """Whether ladder, which may be any value at all, is one for the audience."""
    if not is_tuple_of(ladder, 2):
        return False
    outside, steps = ladder
    if not is_matrix(outside, audience.p, audience.size) or not isinstance(steps, tuple):
        return False
    spanned = reduced_rows(audience.p, outside)
    for step in steps:
        if not _is_step(audience, step, spanned):
            return False
        listener, row = step
        knows, wants = audience.listeners[listener]
        spanned = reduced_with(audience.p, spanned, (wants[row],))
    return True


def lot_ladder(net, p, lot):
    """The ladder of a lot without a ring in the audience of the net."""
    check_field(p)
    if not can_order(net, lot):
        raise Undefined("ladder")
    outside = one_rows(net.size, [place for place in range(net.size) if place not in lot])
    left = list(lot)
    steps = []
    for _ in lot:
        place = [one for one in left if not any([other in left for other in net.knows[one]])][0]
        steps.append((place, 0))
        left.remove(place)
    return (outside, tuple(steps))


def _is_step(audience, value, spanned):
    """Whether value, which may be any value at all, may be a step where these rows are spanned."""
    if not is_tuple_of(value, 2) or not is_want(audience, value[0], value[1]):
        return False
    listener, row = value
    knows, wants = audience.listeners[listener]
    if any([any(rest_of(audience.p, spanned, known)) for known in knows]):
        return False
    return any(rest_of(audience.p, spanned, wants[row]))
