"""Nets written as texts: point [10]."""

from keptandsaid.basics import figures_of, is_lot, is_size
from keptandsaid.errors import InvalidText
from keptandsaid.nets import Net

HEAD = "net "


def write_net(net):
    """The text of a net."""
    return "\n".join([f"{HEAD}{net.size}"] + [_written(known) for known in net.knows])


def read_net(text):
    """The net whose text this is."""
    lines = text.split("\n")
    size = _read_size(lines[0])
    if size is None:
        raise InvalidText(text, 0)
    arcs = []
    at = len(lines[0]) + 1
    for place, line in enumerate(lines[1:]):
        known = _read_known(line, place, size)
        if known is None:
            raise InvalidText(text, at)
        arcs.extend([(place, other) for other in known])
        at = at + len(line) + 1
    if len(lines) <= size:
        raise InvalidText(text, len(text))
    return Net(size, arcs)


def _written(known):
    if len(known) == 0:
        return "-"
    return ",".join([str(place) for place in known])


def _read_size(line):
    """The size that the first line tells, or None."""
    if not line.startswith(HEAD):
        return None
    size = figures_of(line[len(HEAD):], 2)
    return size if is_size(size) else None


def _read_known(line, place, size):
    """The lot that place knows by its line, or None; behind the last place each line is too many."""
    if place >= size:
        return None
    if line == "-":
        return ()
    known = tuple([figures_of(word, 2) for word in line.split(",")])
    return known if is_lot(known, size) and place not in known else None
