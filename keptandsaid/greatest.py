"""Greatest stores of any kind, and words that all exclude one another: point [20]."""

from keptandsaid.errors import TooMany, Undefined
from keptandsaid.rings import can_order
from keptandsaid.words import check_letters, check_words, every_word, place_between

MOST_SEARCHED = 32


def greatest_store(net, q):
    """Some store of any kind of as many words as there can be."""
    words = every_word(net, q)
    if len(words) > MOST_SEARCHED:
        raise TooMany("words")
    excluded = [_excluded_by(net, words, one) for one in words]
    # Each shift of a store is a store, so some greatest one has the word of noughts.
    left = [k for k in range(1, len(words)) if k not in excluded[0]]
    return tuple([words[k] for k in sorted([0] + _greatest_among(excluded, left))])


def all_exclude(net, q, words):
    """Whether each two of words exclude one another."""
    check_letters(net, q)
    check_words(net, q, words)
    for k, one in enumerate(words):
        for other in words[k + 1:]:
            if place_between(net, one, other) is None:
                return False
    return True


def ringless_words(net, q, lot):
    """All words with 0 outside a lot without a ring within it, ascending."""
    check_letters(net, q)
    if not can_order(net, lot):
        raise Undefined("ring")
    kept_at_nought = [place for place in range(net.size) if place not in lot]
    return tuple([word for word in every_word(net, q) if not any([word[place] for place in kept_at_nought])])


def _excluded_by(net, words, one):
    """The numbers of the words that this one excludes."""
    return {k: True for k, other in enumerate(words) if place_between(net, one, other) is not None}


def _greatest_among(excluded, left):
    """Some list of as many of the numbers left as can be, no two of which exclude one another."""
    if len(left) == 0:
        return []
    counted = [(len([other for other in left if other in excluded[one]]), one) for one in left]
    fewest, quiet = min(counted)
    if fewest <= 1:
        # A greatest list with the single word that this one excludes may as well have this one instead.
        return [quiet] + _greatest_among(excluded, _left_beside(excluded, left, quiet))
    # The word that excludes most leaves few others when it is taken, and takes part in most clashes when it is not.
    _, loud = max(counted)
    taken = [loud] + _greatest_among(excluded, _left_beside(excluded, left, loud))
    spared = _greatest_among(excluded, [k for k in left if k != loud])
    return taken if len(taken) >= len(spared) else spared


def _left_beside(excluded, left, one):
    """What is left of these when one is taken."""
    return [other for other in left if other != one and other not in excluded[one]]
