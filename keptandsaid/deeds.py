"""The deeds that boards and their histories do: point [28]."""

from keptandsaid.audiences import Audience, is_listener
from keptandsaid.basics import is_below
from keptandsaid.matrices import is_matrix

MOST_ROWS = 20

MOST_LISTENERS = 12


def is_deed(audience, value):
    """Whether value, which may be any value at all, is a deed whose parts fit the audience."""
    if not isinstance(value, tuple) or len(value) < 2:
        return False
    if value[0] == "join":
        return len(value) == 2 and _may_join(audience, value[1])
    if value[0] == "leave":
        return len(value) == 2 and is_below(value[1], len(audience.listeners))
    if value[0] == "hear":
        return len(value) == 3 and is_below(value[1], len(audience.listeners)) and _is_row(audience, value[2])
    return value[0] == "say" and len(value) == 2 and _is_row(audience, value[1])


def audience_after(audience, deed):
    """The audience behind a deed that fits it."""
    if deed[0] == "join":
        return Audience(audience.p, audience.size, audience.listeners + (deed[1],))
    if deed[0] == "leave":
        return audience.without_listener(deed[1])
    if deed[0] == "hear":
        return audience.knowing(deed[1], (deed[2],))
    heard = [(knows + (deed[1],), wants) for knows, wants in audience.listeners]
    return Audience(audience.p, audience.size, heard)


def has_room(audience):
    """Whether the audience has no more listeners, and none knows or wants more rows, than those of boards."""
    fitting = [len(knows) <= MOST_ROWS and len(wants) <= MOST_ROWS for knows, wants in audience.listeners]
    return len(fitting) <= MOST_LISTENERS and all(fitting)


def _may_join(audience, value):
    if not is_listener(value, audience.p, audience.size):
        return False
    return has_room(Audience(audience.p, audience.size, audience.listeners + (value,)))


def _is_row(audience, value):
    return is_matrix((value,), audience.p, audience.size)
