"""Places that lose what they hold and make it again: point [23]."""

from keptandsaid.basics import check_lot
from keptandsaid.errors import InvalidWord, InvalidWords, Undefined
from keptandsaid.words import check_letters, check_word, check_words, first_clash


class Places:
    """The places of a net, which hold the letters of a word of a store of any kind."""

    def __init__(self, net, q, words):
        clash = first_clash(net, q, words)
        if len(words) == 0:
            raise InvalidWords(words)
        if clash is not None:
            raise Undefined("store")
        self._net = net
        self._q = q
        self._words = words
        self.letters = words[0]

    def put(self, word):
        """All places hold the letters of this word of the store."""
        check_word(self._net, self._q, word)
        if word not in self._words:
            raise InvalidWord(word)
        self.letters = word

    def lose(self, lot):
        """These places hold nothing."""
        check_lot(lot, self._net.size)
        self.letters = tuple([None if place in lot else letter for place, letter in enumerate(self.letters)])

    def remake(self):
        """Each place that holds nothing, but knows only such as hold letters, is made again; tells the lot of these."""
        lost = [place for place, letter in enumerate(self.letters) if letter is None]
        ready = _ready_among(self._net, lost)
        letters = list(self.letters)
        for place in ready:
            letters[place] = self._made_again(place)
        self.letters = tuple(letters)
        return tuple(ready)

    def _made_again(self, place):
        known = self._net.knows[place]
        # The letters held are those of some word of the store, and all words that fit have like letters here.
        return [word[place] for word in self._words if all([word[one] == self.letters[one] for one in known])][0]


def comes_back(net, lot):
    """Whether rounds of remake make all places of the lot again, just these being lost."""
    check_lot(lot, net.size)
    lost = list(lot)
    # In each round some place comes back, or none ever will.
    for _ in lot:
        ready = _ready_among(net, lost)
        lost = [place for place in lost if place not in ready]
    return len(lost) == 0


def alike_outside(net, q, words, lot):
    """Whether some two unlike ones of words are alike at all places outside the lot."""
    check_letters(net, q)
    check_words(net, q, words)
    check_lot(lot, net.size)
    outside = [place for place in range(net.size) if place not in lot]
    return len(set([tuple([word[place] for place in outside]) for word in words])) < len(words)


def _ready_among(net, lost):
    """Those of the lost places that know only places which are not lost."""
    return [place for place in lost if not any([other in lost for other in net.knows[place]])]
