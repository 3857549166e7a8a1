"""Point [17]: audiences and nets made from others."""

import itertools
import unittest

from keptandsaid.audiences import Audience
from keptandsaid.errors import InvalidAudience, InvalidMatrix, InvalidNet
from keptandsaid.fields import is_field
from keptandsaid.least import said_least
from keptandsaid.making import beside_audiences, blocks_of, nets_beside, nets_joined, nets_one_way, one_way_audiences
from keptandsaid.making import relettered_audience
from keptandsaid.matrices import rank_of
from keptandsaid.nets import Net
from keptandsaid.rings import parts_of

from helper import FEW, FIELDS, Numbers, added_up, any_values, expect, expect_number, is_int, no_matrices, only_tuples
from helper import some_audiences, some_nets


def pairs_of_audiences(seed, rounds, sizes):
    """Two audiences of a field, each of up to half of this size."""
    halves = {p: sizes[p] // 2 for p in sizes}
    ones = list(some_audiences(seed, rounds, halves))
    for k, one in enumerate(ones):
        for other in ones[k + 1:]:
            if one.p == other.p:
                yield one, other
                break


def pairs_of_nets(seed, rounds, most):
    nets = list(some_nets(seed, 2 * rounds, most))
    return zip(nets[:rounds], nets[rounds:])


def unit(size, letter):
    return tuple(1 if k == letter else 0 for k in range(size))


class Audiences(unittest.TestCase):
    def test_told_ones(self):
        one = Audience(3, 1, ((((2,),), ((1,), (0,))),))
        other = Audience(3, 2, (((), ((1, 2),)), (((0, 1), (2, 2)), ())))
        self.assertEqual(beside_audiences(one, other), Audience(3, 3, (
            (((2, 0, 0),), ((1, 0, 0), (0, 0, 0))), ((), ((0, 1, 2),)), (((0, 0, 1), (0, 2, 2)), ()),
        )))
        self.assertEqual(beside_audiences(other=one, one=other), Audience(3, 3, (
            ((), ((1, 2, 0),)), (((0, 1, 0), (2, 2, 0)), ()), (((0, 0, 2),), ((0, 0, 1), (0, 0, 0))),
        )))
        self.assertEqual(one_way_audiences(one, other), Audience(3, 3, (
            (((2, 0, 0),), ((1, 0, 0), (0, 0, 0))), (((1, 0, 0),), ((0, 1, 2),)),
            (((0, 0, 1), (0, 2, 2), (1, 0, 0)), ()),
        )))
        self.assertEqual(one_way_audiences(other=one, one=other), Audience(3, 3, (
            ((), ((1, 2, 0),)), (((0, 1, 0), (2, 2, 0)), ()),
            (((0, 0, 2), (1, 0, 0), (0, 1, 0)), ((0, 0, 1), (0, 0, 0))),
        )))

    def test_nobody(self):
        for p in FIELDS:
            for size in range(1, 12):
                one = Audience(p, size, ())
                other = Audience(p, 12 - size, ())
                self.assertEqual(beside_audiences(one, other), Audience(p, 12, ()))
                self.assertEqual(one_way_audiences(one, other), Audience(p, 12, ()))

    def test_letter_by_letter(self):
        for one, other in pairs_of_audiences(171, 300, {p: 12 for p in FIELDS}):
            before = (one.listeners, other.listeners)
            beside = beside_audiences(one, other)
            way = one_way_audiences(one, other)
            for made in (beside, way):
                self.assertEqual((made.p, made.size), (one.p, one.size + other.size))
                self.assertTrue(only_tuples(made.listeners))
                self.assertEqual(len(made.listeners), len(one.listeners) + len(other.listeners))
            for k, listener in enumerate(one.listeners):
                expected = tuple(tuple(row + (0,) * other.size for row in rows) for rows in listener)
                self.assertEqual(beside.listeners[k], expected)
                self.assertEqual(way.listeners[k], expected)
            letters = tuple(unit(made.size, k) for k in range(one.size))
            for k, listener in enumerate(other.listeners):
                knows, wants = tuple(tuple((0,) * one.size + row for row in rows) for rows in listener)
                self.assertEqual(beside.listeners[len(one.listeners) + k], (knows, wants))
                self.assertEqual(way.listeners[len(one.listeners) + k], (knows + letters, wants))
            self.assertEqual((one.listeners, other.listeners), before)

    def test_more_listeners_than_may_be_passed(self):
        audience = Net(6, ()).audience(2)
        twice = beside_audiences(audience, audience)
        self.assertEqual(twice, Net(12, ()).audience(2))
        many = Audience(2, 6, audience.listeners * 2)
        self.assertEqual(len(beside_audiences(many, many).listeners), 24)

    def test_too_great_or_unlike(self):
        for call in (beside_audiences, one_way_audiences):
            for size in range(1, 13):
                for other in range(1, 13):
                    one, two = Audience(2, size, ()), Net(other, ()).audience(2)
                    if size + other > 12:
                        self.refused(call, one, two)
                    else:
                        self.assertEqual(call(one, two).size, size + other)
                        self.refused(call, one, Net(other, ()).audience(3))
            for p, q in itertools.permutations(FIELDS, 2):
                self.refused(call, Audience(p, 1, ()), Audience(q, 1, ()))

    def test_said_is_the_sum(self):
        for one, other in pairs_of_audiences(172, 120, FEW):
            both = said_least(one) + said_least(other)
            self.assertEqual(said_least(beside_audiences(one, other)), both)
            self.assertEqual(said_least(one_way_audiences(one, other)), both)

    def refused(self, call, one, other):
        expect(self, InvalidAudience, {"part": "beside", "place": 0}, call, one, other)


class Nets(unittest.TestCase):
    def test_told_ones(self):
        one, other = Net(2, ((1, 0),)), Net(2, ((0, 1),))
        self.assertEqual(nets_beside(one, other), Net(4, ((1, 0), (2, 3))))
        self.assertEqual(nets_one_way(one, other), Net(4, ((1, 0), (2, 0), (2, 1), (2, 3), (3, 0), (3, 1))))
        self.assertEqual(nets_joined(one, other), Net(4, (
            (0, 2), (0, 3), (1, 0), (1, 2), (1, 3), (2, 0), (2, 1), (2, 3), (3, 0), (3, 1),
        )))
        for call in (nets_beside, nets_one_way, nets_joined):
            self.assertEqual(call(other=one, one=other), call(other, one))

    def test_arc_by_arc(self):
        for one, other in pairs_of_nets(173, 200, 6):
            arcs = set(one.arcs) | {(i + one.size, j + one.size) for i, j in other.arcs}
            back = {(i + one.size, j) for i in range(other.size) for j in range(one.size)}
            forth = {(j, i) for i, j in back}
            before = (one.arcs, other.arcs)
            for call, more in ((nets_beside, set()), (nets_one_way, back), (nets_joined, back | forth)):
                made = call(one, other)
                self.assertEqual(made.size, one.size + other.size)
                self.assertEqual(made.arcs, tuple(sorted(arcs | more)))
            self.assertEqual((one.arcs, other.arcs), before)

    def test_of_audiences(self):
        for one, other in pairs_of_nets(174, 60, 6):
            beside = beside_audiences(one.audience(5), other.audience(5))
            self.assertEqual(nets_beside(one, other).audience(5), beside)

    def test_too_great(self):
        for call in (nets_beside, nets_one_way, nets_joined):
            for size in range(1, 13):
                for other in range(1, 13):
                    if size + other > 12:
                        expect(self, InvalidNet, {"part": "beside", "place": 0}, call, Net(size, ()), Net(other, ()))
                    else:
                        self.assertEqual(call(Net(size, ()), Net(other, ())).size, size + other)

    def test_said(self):
        for one, other in pairs_of_nets(175, 60, 3):
            for p in (2, 3, 7):
                if one.size + other.size <= FEW[p]:
                    first, second = said_least(one.audience(p)), said_least(other.audience(p))
                    self.assertEqual(said_least(nets_beside(one, other).audience(p)), first + second)
                    self.assertEqual(said_least(nets_one_way(one, other).audience(p)), first + second)
                    self.assertEqual(said_least(nets_joined(one, other).audience(p)), max(first, second))

    def test_said_is_the_sum_over_the_parts(self):
        for one, other in pairs_of_nets(176, 40, 3):
            net = nets_one_way(one, other)
            said = sum([said_least(net.within(part).audience(2)) for part in parts_of(net)])
            self.assertEqual(said_least(net.audience(2)), said)


class Blocks(unittest.TestCase):
    def test_told_ones(self):
        net = Net(2, ((0, 1),))
        self.assertEqual(blocks_of(net, 3, 2), Audience(3, 4, (
            (((0, 0, 1, 0), (0, 0, 0, 1)), ((1, 0, 0, 0), (0, 1, 0, 0))), ((), ((0, 0, 1, 0), (0, 0, 0, 1))),
        )))
        self.assertEqual(blocks_of(many=1, p=2, net=net), net.audience(2))
        self.assertEqual(len(blocks_of(Net(1, ()), 2, 12).listeners), 1)

    def test_letter_by_letter(self):
        for net in some_nets(177, 150, 12):
            p = FIELDS[net.size % 6]
            for many in range(1, 12 // net.size + 1):
                made = blocks_of(net, p, many)
                size = net.size * many
                self.assertEqual((made.p, made.size, len(made.listeners)), (p, size, net.size))
                for i, (knows, wants) in enumerate(made.listeners):
                    known = [k for k in range(size) if k // many in net.knows[i]]
                    self.assertEqual(knows, tuple(unit(size, k) for k in known))
                    self.assertEqual(wants, tuple(unit(size, k) for k in range(size) if k // many == i))
                self.assertTrue(only_tuples(made.listeners))
                self.assertTrue(all(is_int(k) for pair in made.listeners for rows in pair for row in rows for k in row))

    def test_no_field_ahead_of_no_number(self):
        net = Net(3, ((0, 1),))
        for p in any_values() + [4, 6, 9, 17]:
            if not is_field(p):
                for many in (1, 0, 5, None):
                    expect_number(self, p, blocks_of, net, p, many)

    def test_no_number(self):
        for size in range(1, 13):
            for many in any_values() + list(range(-2, 15)):
                if is_int(many) and 1 <= many <= 12 // size:
                    self.assertEqual(blocks_of(Net(size, ()), 2, many).size, size * many)
                else:
                    expect_number(self, many, blocks_of, Net(size, ()), 2, many)

    def test_said(self):
        for net in some_nets(178, 60, 3):
            for p, most in FEW.items():
                for many in range(1, most // net.size + 1):
                    said = said_least(blocks_of(net, p, many))
                    self.assertLessEqual(said, many * said_least(net.audience(p)))


class Relettered(unittest.TestCase):
    def test_told_ones(self):
        audience = Audience(3, 2, ((((1, 0), (2, 1)), ((0, 1),)), ((), ((0, 0), (1, 1)))))
        self.assertEqual(relettered_audience(audience, ((1, 1), (0, 2))), Audience(3, 2, (
            (((1, 1), (2, 1)), ((0, 2),)), ((), ((0, 0), (1, 0))),
        )))
        self.assertEqual(relettered_audience(matrix=((1, 0), (0, 1)), audience=audience), audience)
        self.assertEqual(relettered_audience(audience, ((0, 1), (1, 0))).listeners[0], (((0, 1), (1, 2)), ((1, 0),)))

    def test_letter_by_letter(self):
        for audience, matrix in self.some(179, 300, {p: 12 for p in FIELDS}):
            made = relettered_audience(audience, matrix)
            self.assertEqual((made.p, made.size), (audience.p, audience.size))
            self.assertEqual(made.listeners, tuple(
                tuple(tuple(added_up(audience.p, matrix, row, audience.size) for row in rows) for rows in listener)
                for listener in audience.listeners
            ))
            self.assertTrue(only_tuples(made.listeners))

    def test_no_matrix(self):
        audience = Audience(2, 2, ((((1, 0),), ((0, 1),)),))
        for matrix in no_matrices() + [
            (), ((1, 0),), ((1, 0), (0, 1), (1, 1)), ((1, 0), (1, 0)), ((1, 0), (0, 0)), ((0, 0), (0, 0)), ((1, 1), (1, 1)),
            [(1, 0), (0, 1)], ((1, 0), [0, 1]), ((1, 0), (0, 2)), ((1, 0), (0, True)), ((1, 0, 0), (0, 1, 0), (0, 0, 1)),
            ((1, 0, 0), (0, 1, 0)), ((1,), (1,)), ((1, 0), (1, 0), (0, 1)),
        ]:
            for one in (audience, Audience(2, 2, ())):
                error = expect(self, InvalidMatrix, {"value": matrix}, relettered_audience, one, matrix)
                self.assertIs(error.value, matrix)

    def test_said(self):
        for audience, matrix in self.some(180, 150, FEW):
            self.assertEqual(said_least(relettered_audience(audience, matrix)), said_least(audience))

    def some(self, seed, rounds, sizes):
        numbers = Numbers(seed)
        for audience in some_audiences(seed, rounds, sizes):
            matrix = numbers.matrix(audience.p, audience.size, audience.size)
            if rank_of(audience.p, matrix) == audience.size:
                yield audience, matrix


if __name__ == "__main__":
    unittest.main()
