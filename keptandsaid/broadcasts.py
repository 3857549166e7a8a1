"""Broadcasts of signals for words of any kind: point [19]."""

from keptandsaid.basics import check_below, is_below, is_number, is_tuple_of
from keptandsaid.errors import InvalidMatrix, InvalidSignals, Undefined
from keptandsaid.fields import check_field
from keptandsaid.matrices import check_matrix, products
from keptandsaid.words import check_letters, every_word, first_apart

MOST_ROWS = 6


def first_wrong(net, q, signals):
    """The first pair of words with like signals that exclude one another, with the least place, or None."""
    words = every_word(net, q)
    if not is_tuple_of(signals, len(words)) or not all([is_number(signal) for signal in signals]):
        raise InvalidSignals(signals)
    return first_apart(net, words, signals)


def decoded_letter(net, q, signals, place, signal, letters):
    """The letter at place of all words with this signal and these letters at the places that it knows."""
    if first_wrong(net, q, signals) is not None:
        raise Undefined("broadcast")
    check_below(place, net.size)
    known = net.knows[place]
    # As True is like 1, what is no number is sorted out ahead of comparing.
    if not is_number(signal) or not is_tuple_of(letters, len(known)) or not all([is_below(one, q) for one in letters]):
        raise Undefined("letter")
    for word, told in zip(every_word(net, q), signals):
        if told == signal and tuple([word[other] for other in known]) == letters:
            return word[place]
    raise Undefined("letter")


def signals_of(net, p, telling):
    """The signals that are the telling's values as digits to the base p."""
    check_letters(net, p)
    check_field(p)
    check_matrix(telling, p, net.size)
    if len(telling) > MOST_ROWS:
        raise InvalidMatrix(telling)
    return tuple([_number_of(p, products(p, telling, word)) for word in every_word(net, p)])


def _number_of(base, digits):
    number = 0
    for digit in digits:
        number = number * base + digit
    return number
