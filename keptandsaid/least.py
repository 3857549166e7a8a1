"""The fewest letters that can be said and the most that can be kept: point [13]."""

from keptandsaid.errors import TooMany
from keptandsaid.matrices import reduced_with, rest_of, spanned_rows, sum_of, zero_rows

# For each field up to how many columns there are few spaces.
FEW_SPACES = {2: 6, 3: 5, 5: 4, 7: 4, 11: 3, 13: 3}


def said_least(audience):
    """The least rank of a telling that serves all."""
    return len(least_telling(audience))


def least_telling(audience):
    """Some telling of as few rows as can be that serves all."""
    check_few_spaces(audience.p, audience.size)
    levels, telling = searched_levels(audience, audience.size + 1)
    return telling


def kept_most(audience):
    """The greatest rank of a store that keeps all."""
    return audience.size - said_least(audience)


def greatest_keeping(audience):
    """Some store of the greatest rank that keeps all."""
    return zero_rows(audience.p, least_telling(audience), audience.size)


def has_few_spaces(p, size):
    """Whether there are few spaces of rows of so many columns."""
    return size <= FEW_SPACES[p]


def check_few_spaces(p, size):
    """Raises an error unless there are few spaces of rows of so many columns."""
    if not has_few_spaces(p, size):
        raise TooMany("spaces")


def searched_levels(audience, most):
    """The levels of the search for a least telling, most of them or fewer, and the telling, or None if it lies behind.

    Level k is a dict of reduced matrices of k rows, none of which serves all. Each has (number, listener, row): the
    listener lacks this row of its wants; number tells where it stands among the wishes. A telling that serves all spans
    the () of level 0 and, with a matrix of one level, also some matrix of the next. So it has no fewer rows than there
    are levels.
    """
    wishes = _wishes_of(audience)
    lack = _first_lack(audience, wishes, 0, ())
    if lack is None:
        return ([], ())
    levels = [{(): lack}]
    while len(levels) < most:
        level, telling = _next_level(audience, wishes, levels[-1])
        if telling is not None:
            return (levels, telling)
        levels.append(level)
    return (levels, None)


def spaces_behind(p, space, known, want):
    """The reduced matrices that span space and want plus a row that known spans, each once.

    Space and known are reduced, and want is not spanned by both together.
    """
    # Rows of known that differ by what space spans lead to the same matrix.
    rest = reduced_with(p, (), [rest_of(p, space, row) for row in known])
    return [reduced_with(p, space, (sum_of(p, want, 1, row),)) for row in spanned_rows(p, rest, len(want))]


def _wishes_of(audience):
    """For each listener how many rows it knows, its number, these rows, reduced, and the numbers of the rows it lacks.

    Those that know less stand first, as their lacks leave fewer spaces for the next level.
    """
    wishes = []
    for listener, (knows, wants) in enumerate(audience.listeners):
        known = reduced_with(audience.p, (), knows)
        wishes.append((len(known), listener, known, _rows_lacking(audience.p, known, wants)))
    return sorted(wishes)


def _rows_lacking(p, known, wants):
    """The numbers of those of wants that are not spanned by known and the ones ahead; who has these has all."""
    found = []
    spanned = known
    for row, want in enumerate(wants):
        if any(rest_of(p, spanned, want)):
            found.append(row)
            spanned = reduced_with(p, spanned, (want,))
    return tuple(found)


def _first_lack(audience, wishes, start, space):
    """What the first listener from this place of the wishes on lacks when the rows of space are said, or None."""
    for number in range(start, len(wishes)):
        _, listener, known, rows = wishes[number]
        spanned = reduced_with(audience.p, known, space)
        for row in rows:
            if any(rest_of(audience.p, spanned, audience.listeners[listener][1][row])):
                return (number, listener, row)
    return None


def _next_level(audience, wishes, level):
    """The next level, and None; or the first telling among its spaces that serves all, behind a part of the level."""
    found = {}
    for space, (number, listener, row) in level.items():
        want = audience.listeners[listener][1][row]
        for longer in spaces_behind(audience.p, space, wishes[number][2], want):
            if longer not in found:
                # Whom space serves, the longer one serves, too.
                lack = _first_lack(audience, wishes, number, longer)
                if lack is None:
                    return (found, longer)
                found[longer] = lack
    return (found, None)
