"""What the document calls integers, sequences, lots and figures: points [1] and [2]."""

FIGURES = "0123456789"

MOST_COLUMNS = 12


def is_integer(value):
    """Whether value is an int that is not a bool."""
    return isinstance(value, int) and not isinstance(value, bool)


def is_below(value, bound):
    """Whether value is a number below bound: a letter, a place, the number of a listener."""
    return is_integer(value) and 0 <= value < bound


def is_size(value):
    """Whether so many columns or places are possible."""
    return is_integer(value) and 1 <= value <= MOST_COLUMNS


def is_sequence(value):
    """Whether value may be passed where a sequence is expected."""
    return isinstance(value, (list, tuple))


def is_lot(value, bound):
    """Whether value is a rising tuple of numbers below bound."""
    if not isinstance(value, tuple) or not all([is_below(place, bound) for place in value]):
        return False
    return all([value[k - 1] < value[k] for k in range(1, len(value))])


def figures_of(word, most):
    """The integer that word tells by at most so many figures, or None."""
    if not 1 <= len(word) <= most or not all([sign in FIGURES for sign in word]):
        return None
    if word[0] == "0" and len(word) > 1:
        return None
    return int(word)
