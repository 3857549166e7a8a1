"""What point [2] of the document and the limits call integers, sequences and lots."""

MOST_COLUMNS = 12


def is_integer(value):
    """Whether value is an int that is not a bool."""
    return isinstance(value, int) and not isinstance(value, bool)


def is_below(value, bound):
    """Whether value is a number below bound: a letter, a place, the number of a listener."""
    return is_integer(value) and 0 <= value < bound


def is_size(value):
    """Whether so many columns or places are possible."""
    return is_integer(value) and 1 <= value <= MOST_COLUMNS


def is_sequence(value):
    """Whether value may be passed where a sequence is expected."""
    return isinstance(value, (list, tuple))
