"""Broadcasts laid greedily out of shifted copies of a store: point [21]."""

from keptandsaid.basics import is_number
from keptandsaid.errors import InvalidNumber, Undefined
from keptandsaid.words import every_word, first_clash, shifted_words


def greedy_broadcast(net, q, words):
    """The signals of the broadcast for which always the shift with most words without a signal is taken."""
    clash = first_clash(net, q, words)
    if len(words) == 0 or clash is not None:
        raise Undefined("store")
    every = every_word(net, q)
    shifts = [shifted_words(net, q, words, by) for by in every]
    signals = {}
    signal = 0
    while len(signals) < len(every):
        # Of several shifts with most such words max tells the first.
        taken = max([[word for word in shift if word not in signals] for shift in shifts], key=len)
        for word in taken:
            signals[word] = signal
        signal = signal + 1
    return tuple([signals[word] for word in every])


def told_row(total, words):
    """The row from total down to 0 in which always the share that words are of total goes, rounded up."""
    if not is_number(total) or total == 0:
        raise InvalidNumber(total)
    if not is_number(words) or words == 0 or words > total:
        raise InvalidNumber(words)
    row = [total]
    while row[-1] > 0:
        share = (row[-1] * words + total - 1) // total
        row.append(row[-1] - share)
    return tuple(row)
