"""What the document calls integers, numbers, sequences, lots and figures: points [1] and [2]."""

from keptandsaid.errors import InvalidLot, InvalidNumber

FIGURES = "0123456789"

MOST_COLUMNS = 12


def is_integer(value):
    """Whether value is an int that is not a bool."""
    return isinstance(value, int) and not isinstance(value, bool)


def is_number(value):
    """Whether value is an integer from 0 on."""
    return is_integer(value) and value >= 0


def is_below(value, bound):
    """Whether value is a number below bound: a letter, a place, the number of a listener."""
    return is_number(value) and value < bound


def is_size(value):
    """Whether so many columns or places are possible."""
    return is_integer(value) and 1 <= value <= MOST_COLUMNS


def is_sequence(value):
    """Whether value may be passed where a sequence is expected."""
    return isinstance(value, (list, tuple))


def is_tuple_of(value, many):
    """Whether value is a tuple of so many parts."""
    return isinstance(value, tuple) and len(value) == many


def is_rising(parts):
    """Whether each of parts, which can be compared, is above the one ahead."""
    return all([parts[k - 1] < parts[k] for k in range(1, len(parts))])


def is_lot(value, bound):
    """Whether value is a rising tuple of numbers below bound."""
    return is_rising_tuple(value) and all([place < bound for place in value])


def is_rising_tuple(value):
    """Whether value is a rising tuple of numbers."""
    return isinstance(value, tuple) and all([is_number(part) for part in value]) and is_rising(value)


def check_below(value, bound):
    """Raises an error unless value is a number below bound."""
    if not is_below(value, bound):
        raise InvalidNumber(value)


def check_lot(value, bound):
    """Raises an error unless value is a lot of places below bound."""
    if not is_lot(value, bound):
        raise InvalidLot(value)


def power_of(base, exponent):
    """Base to the power of exponent, a number."""
    found = 1
    for _ in range(exponent):
        found = found * base
    return found


def figures_of(word, most):
    """The integer that word tells by at most so many figures, or None."""
    if not 1 <= len(word) <= most or not all([sign in FIGURES for sign in word]):
        return None
    if word[0] == "0" and len(word) > 1:
        return None
    return int(word)
