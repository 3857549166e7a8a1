"""A desk that keeps a net, a prime and the lines of its deeds: points [24] and [25]."""

from keptandsaid.basics import figures_of
from keptandsaid.errors import InvalidLine, InvalidNet, UnknownWord
from keptandsaid.fields import check_field
from keptandsaid.greatest import greatest_store
from keptandsaid.least import kept_most, least_telling, said_least
from keptandsaid.netbounds import ringless_lot
from keptandsaid.nets import Net
from keptandsaid.nettexts import write_net
from keptandsaid.places import comes_back
from keptandsaid.rings import parts_of, some_ring
from keptandsaid.rowtexts import row_text, rows_text
from keptandsaid.tracks import Track

FIRST_PRIME = 2


def _after_arc(net, prime, parts):
    return (net.with_arc(parts[0], parts[1]), prime)


def _after_cut(net, prime, parts):
    return (net.without_arc(parts[0], parts[1]), prime)


def _after_drop(net, prime, parts):
    return (net.without_place(parts[0]), prime)


def _after_turn(net, prime, parts):
    return (net.turned(), prime)


def _after_rename(net, prime, parts):
    return (net.renamed(parts[0]), prime)


def _after_field(net, prime, parts):
    check_field(parts[0])
    return (net, parts[0])


def _said_text(net, prime, parts):
    return str(said_least(net.audience(prime)))


def _kept_text(net, prime, parts):
    return str(kept_most(net.audience(prime)))


def _telling_text(net, prime, parts):
    return rows_text(least_telling(net.audience(prime)))


def _ring_text(net, prime, parts):
    ring = some_ring(net)
    return "none" if ring is None else row_text(ring)


def _parts_text(net, prime, parts):
    return rows_text(parts_of(net))


def _lot_text(net, prime, parts):
    return row_text(ringless_lot(net))


def _back_text(net, prime, parts):
    return "yes" if comes_back(net, parts[0]) else "no"


def _store_text(net, prime, parts):
    return str(len(greatest_store(net, parts[0])))


# What stands behind the first word of each line.
FORMS = {
    "arc": ("integer", "integer"),
    "cut": ("integer", "integer"),
    "drop": ("integer",),
    "turn": (),
    "rename": ("list",),
    "field": ("integer",),
    "said": (),
    "kept": (),
    "telling": (),
    "ring": (),
    "parts": (),
    "lot": (),
    "back": ("list",),
    "store": ("integer",),
    "undo": (),
    "redo": (),
}

# For each deed what tells the net and the prime behind it, for each question what tells its answer.
DEEDS = {
    "arc": _after_arc,
    "cut": _after_cut,
    "drop": _after_drop,
    "turn": _after_turn,
    "rename": _after_rename,
    "field": _after_field,
}
QUESTIONS = {
    "said": _said_text,
    "kept": _kept_text,
    "telling": _telling_text,
    "ring": _ring_text,
    "parts": _parts_text,
    "lot": _lot_text,
    "back": _back_text,
    "store": _store_text,
}


class Desk:
    """A net and a prime that lines change and ask about."""

    def __init__(self, net):
        if not isinstance(net, Net):
            raise InvalidNet("net", 0)
        self.net = net
        self.prime = FIRST_PRIME
        self.lines = ()
        self._track = Track((net, FIRST_PRIME))

    def run(self, line):
        """Does one line and answers a text."""
        word, parts = _read_line(line)
        if word in QUESTIONS:
            question = QUESTIONS[word]
            return question(self.net, self.prime, parts)
        self._move(line, word, parts)
        self.net, self.prime = self._track.state()
        self.lines = self._track.deeds()
        if word == "field":
            return str(self.prime)
        return write_net(self.net).replace("\n", ";")

    def _move(self, line, word, parts):
        if word == "undo":
            self._track.undo()
        elif word == "redo":
            self._track.redo()
        else:
            deed = DEEDS[word]
            self._track.step(line, deed(self.net, self.prime, parts))


def replayed_desk(net, lines):
    """A desk on which these lines were run."""
    desk = Desk(net)
    for line in lines:
        desk.run(line)
    return desk


def _read_line(line):
    """The first word of a line and the integers and lists behind it."""
    words = line.split(" ")
    first = words[0]
    if first not in FORMS:
        raise UnknownWord(first)
    forms = FORMS[first]
    parts = []
    at = len(first) + 1
    for k, word in enumerate(words[1:]):
        part = _read_part(forms[k], word) if k < len(forms) else None
        if part is None:
            raise InvalidLine(line, at)
        parts.append(part)
        at = at + len(word) + 1
    if len(parts) < len(forms):
        raise InvalidLine(line, len(line))
    return (first, parts)


def _read_part(form, word):
    """The integer or list that the word tells, or None."""
    if form == "integer":
        return figures_of(word, 2)
    if word == "-":
        return ()
    numbers = tuple([figures_of(one, 2) for one in word.split(",")])
    return None if None in numbers else numbers
