"""What is said to all listeners, and whom it serves: point [11]."""

from keptandsaid.basics import check_below
from keptandsaid.errors import Undefined
from keptandsaid.matrices import check_matrix, products, reduced_with, rest_of, sum_to, zero_rows


def first_unserved(audience, telling):
    """The first listener that the telling does not serve, with two words that show it, or None."""
    check_matrix(telling, audience.p, audience.size)
    for listener in range(len(audience.listeners)):
        if not serves(audience, telling, listener):
            noughts = (0,) * audience.size
            return (listener, noughts, _mistaken_word(audience, telling, listener))
    return None


def decoder_of(audience, telling, listener):
    """For each row of wants the letters by which the rows of the telling and of knows add up to it."""
    check_matrix(telling, audience.p, audience.size)
    check_below(listener, len(audience.listeners))
    if not serves(audience, telling, listener):
        raise Undefined("decoder")
    knows, wants = audience.listeners[listener]
    return tuple([sum_to(audience.p, telling + knows, row) for row in wants])


def serves(audience, telling, listener):
    """Whether the telling, a matrix, serves the listener."""
    knows, wants = audience.listeners[listener]
    spanned = reduced_with(audience.p, (), telling + knows)
    return not any([any(rest_of(audience.p, spanned, row)) for row in wants])


def _mistaken_word(audience, telling, listener):
    """A word that a listener that is not served takes for that of noughts, although it wants to know better."""
    knows, wants = audience.listeners[listener]
    words = zero_rows(audience.p, telling + knows, audience.size)
    # Were all wants 0 at each of these words, the telling and knows would span them.
    return [word for word in words if products(audience.p, wants, word) != (0,) * len(wants)][0]
