"""The fields that letters can be taken from: point [5]."""

from keptandsaid.basics import check_below, is_integer
from keptandsaid.errors import InvalidNumber, Undefined

FIELDS = (2, 3, 5, 7, 11, 13)


def is_field(p):
    """Whether p, which may be any value at all, is one of the six primes."""
    return is_integer(p) and p in FIELDS


def inverse_of(p, a):
    """The letter b with a b = 1 modulo p."""
    check_field(p)
    check_below(a, p)
    for b in range(1, p):
        if a * b % p == 1:
            return b
    raise Undefined("inverse")


def check_field(p):
    """Raises an error unless p is a field."""
    if not is_field(p):
        raise InvalidNumber(p)
