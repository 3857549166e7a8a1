"""Words of any kind of letters, and which of them exclude one another over a net: point [18]."""

from keptandsaid.basics import is_below, is_integer, is_rising, is_tuple_of, power_of
from keptandsaid.errors import InvalidNumber, InvalidWord, InvalidWords
from keptandsaid.matrices import sum_of

MOST_LETTERS = 5

MOST_WORDS = 81


def every_word(net, q):
    """All words, ascending."""
    check_letters(net, q)
    words = [()]
    for _ in range(net.size):
        words = [word + (letter,) for word in words for letter in range(q)]
    return tuple(words)


def excluding_place(net, q, one, other):
    """The least place with unlike letters in both words that knows none with unlike letters, or None."""
    check_letters(net, q)
    check_word(net, q, one)
    check_word(net, q, other)
    return place_between(net, one, other)


def first_clash(net, q, words):
    """The first pair of words that exclude one another, with the least place at which they do so, or None."""
    check_letters(net, q)
    check_words(net, q, words)
    return first_apart(net, words, (0,) * len(words))


def shifted_words(net, q, words, by):
    """The words plus by, letter by letter, ascending."""
    check_letters(net, q)
    check_words(net, q, words)
    check_word(net, q, by)
    return tuple(sorted([sum_of(q, word, 1, by) for word in words]))


def check_letters(net, q):
    """Raises an error unless there are q letters and not too many words of them over the net."""
    if not is_integer(q) or not 2 <= q <= MOST_LETTERS or power_of(q, net.size) > MOST_WORDS:
        raise InvalidNumber(q)


def check_word(net, q, value):
    """Raises an error unless value is a word."""
    if not _is_word(net, q, value):
        raise InvalidWord(value)


def check_words(net, q, value):
    """Raises an error unless value is a rising tuple of words."""
    if not isinstance(value, tuple) or not all([_is_word(net, q, word) for word in value]) or not is_rising(value):
        raise InvalidWords(value)


def first_apart(net, words, signals):
    """The first pair of words that exclude one another, but have like signals, with the least place, or None."""
    for k, one in enumerate(words):
        for j in range(k + 1, len(words)):
            if signals[j] == signals[k]:
                place = place_between(net, one, words[j])
                if place is not None:
                    return (one, words[j], place)
    return None


def place_between(net, one, other):
    """The least place at which two words exclude one another, or None."""
    unlike = [place for place in range(net.size) if one[place] != other[place]]
    for place in unlike:
        if not any([known in unlike for known in net.knows[place]]):
            return place
    return None


def _is_word(net, q, value):
    return is_tuple_of(value, net.size) and all([is_below(letter, q) for letter in value])
