"""Audiences and nets that are made from others: point [17]."""

from keptandsaid.audiences import Audience
from keptandsaid.basics import MOST_COLUMNS, is_number
from keptandsaid.errors import InvalidAudience, InvalidMatrix, InvalidNet, InvalidNumber
from keptandsaid.fields import check_field
from keptandsaid.matrices import check_matrix, one_rows, rank_of, sum_of
from keptandsaid.nets import Net


def beside_audiences(one, other):
    """The audience of the letters and listeners of one, then those of other."""
    _check_audiences(one, other)
    return _together(one, other, ())


def one_way_audiences(one, other):
    """As beside_audiences, but each listener of other knows all letters of one, too."""
    _check_audiences(one, other)
    return _together(one, other, one_rows(one.size + other.size, list(range(one.size))))


def nets_beside(one, other):
    """The net of the places of one, then those of other."""
    _check_nets(one, other)
    return Net(one.size + other.size, _arcs_beside(one, other))


def nets_one_way(one, other):
    """As nets_beside, but each place of other knows all of one, too."""
    _check_nets(one, other)
    return Net(one.size + other.size, sorted(_arcs_beside(one, other) + _arcs_back(one, other)))


def nets_joined(one, other):
    """As nets_one_way, but each place of one knows all of other, too."""
    _check_nets(one, other)
    back = _arcs_back(one, other)
    forth = [(j, i) for i, j in back]
    return Net(one.size + other.size, sorted(_arcs_beside(one, other) + back + forth))


def blocks_of(net, p, many):
    """The audience of the net in which each place has many letters instead of one."""
    check_field(p)
    if not is_number(many) or many == 0 or net.size * many > MOST_COLUMNS:
        raise InvalidNumber(many)
    columns = net.size * many
    blocks = [list(range(place * many, place * many + many)) for place in range(net.size)]
    listeners = [
        (one_rows(columns, [letter for other in known for letter in blocks[other]]), one_rows(columns, blocks[place]))
        for place, known in enumerate(net.knows)
    ]
    return Audience(p, columns, listeners)


def relettered_audience(audience, matrix):
    """The audience in which the rows of matrix stand for the letters."""
    check_matrix(matrix, audience.p, audience.size)
    if len(matrix) != audience.size or rank_of(audience.p, matrix) != audience.size:
        raise InvalidMatrix(matrix)
    listeners = [
        tuple([tuple([_relettered(audience.p, matrix, row) for row in rows]) for rows in listener])
        for listener in audience.listeners
    ]
    return Audience(audience.p, audience.size, listeners)


def _check_audiences(one, other):
    if one.p != other.p or one.size + other.size > MOST_COLUMNS:
        raise InvalidAudience("beside", 0)


def _check_nets(one, other):
    if one.size + other.size > MOST_COLUMNS:
        raise InvalidNet("beside", 0)


def _together(one, other, told):
    """The letters and listeners of both; those of other know, behind their own rows, those of told."""
    ahead = (0,) * one.size
    behind = (0,) * other.size
    listeners = [
        (tuple([row + behind for row in knows]), tuple([row + behind for row in wants]))
        for knows, wants in one.listeners
    ]
    others = [
        (tuple([ahead + row for row in knows]) + told, tuple([ahead + row for row in wants]))
        for knows, wants in other.listeners
    ]
    return Audience(one.p, one.size + other.size, listeners + others)


def _arcs_beside(one, other):
    return list(one.arcs) + [(i + one.size, j + one.size) for i, j in other.arcs]


def _arcs_back(one, other):
    """The arcs from each place of other to each of one, where both stand beside one another."""
    return [(i + one.size, j) for i in range(other.size) for j in range(one.size)]


def _relettered(p, matrix, row):
    """The sum of the rows of matrix times the letters of row."""
    found = (0,) * len(row)
    for letter, one in zip(row, matrix):
        found = sum_of(p, found, letter, one)
    return found
