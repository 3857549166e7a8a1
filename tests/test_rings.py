"""Point [9]: rings."""

import itertools
import unittest

from keptandsaid.errors import InvalidLot
from keptandsaid.nets import Net
from keptandsaid.rings import can_order, is_ring, parts_of, some_ring

from helper import all_nets, any_values, deep, expect, only_tuples, some_nets


def ring_by_words(net, value):
    """What the document says of a ring, word by word, of a tuple of places."""
    pairs = list(zip(value, value[1:] + value[:1]))
    return len(value) > 0 and len(set(value)) == len(value) and all(pair in net.arcs for pair in pairs)


def has_ring(net, lot):
    return any(ring_by_words(net, order) for many in range(1, len(lot) + 1)
               for order in itertools.permutations(lot, many))


def leads(net):
    """Whether a place leads to another one by one or several arcs, by Warshall's way."""
    there = {(i, j): (i, j) in net.arcs for i in range(net.size) for j in range(net.size)}
    for k in range(net.size):
        for i in range(net.size):
            for j in range(net.size):
                there[i, j] = there[i, j] or (there[i, k] and there[k, j])
    return there


def parts_by_words(net):
    there = leads(net)
    lots = []
    for i in range(net.size):
        lot = tuple([j for j in range(net.size) if j == i or (there[i, j] and there[j, i])])
        if lot not in lots:
            lots.append(lot)
    told = []
    while len(told) < len(lots):
        known = [place for lot in told for place in lot]
        fit = [lot for lot in lots if lot not in told
               and all(j in lot or j in known for i, j in net.arcs if i in lot)]
        told.append(min(fit, key=min))
    return tuple(told)


RING = Net(5, ((0, 1), (1, 2), (1, 4), (2, 0), (2, 1), (3, 4), (4, 3)))


class IsRing(unittest.TestCase):
    def test_rings_begun_at_each_place(self):
        for ring in ((0, 1, 2), (1, 2, 0), (2, 0, 1), (1, 2), (2, 1), (3, 4), (4, 3)):
            self.assertIs(is_ring(RING, ring), True, ring)
            self.assertIs(is_ring(value=ring, net=RING), True)

    def test_changed_rings(self):
        for value in (
            (2, 1, 0), (0, 2, 1), (0, 1), (1, 0), (0, 2), (2, 0), (0, 1, 2, 0), (0, 1, 2, 1), (1, 2, 1, 2), (0, 1, 3),
            (0,), (1,), (3, 3), (3,), (3, 4, 3), (0, 1, 2, 3, 4), (1, 4), (0, 1, 2, 4), (),
        ):
            self.assertIs(is_ring(RING, value), False, value)

    def test_values_of_every_kind(self):
        net = Net(2, ((0, 1), (1, 0)))
        for value in any_values() + [net, RING]:
            expected = isinstance(value, tuple) and only_tuples(value) and value in ((0, 1), (1, 0))
            self.assertIs(is_ring(net, value), expected, value)
        for value in (
            [0, 1], (0, True), (False, 1), (False, True), (0, 2), (2, 0), (-1, 0), (0, -1), (-2, -1), ("0", "1"), (0, None),
            ((0, 1),), (0, [1]), deep(0, 10), "01", (net,), (0, 10 ** 30), (1, -2),
        ):
            self.assertIs(is_ring(net, value), False, value)

    def test_all_tuples_of_small_nets(self):
        for size in (1, 2, 3):
            for net in all_nets(size):
                for many in range(5):
                    for value in itertools.product(range(size), repeat=many):
                        self.assertIs(is_ring(net, value), ring_by_words(net, value))

    def test_no_arc_within_one_place(self):
        self.assertIs(is_ring(Net(1, ()), (0,)), False)


class SomeRing(unittest.TestCase):
    def test_told_ones(self):
        self.assertIsNone(some_ring(Net(1, ())))
        self.assertIsNone(some_ring(Net(12, ())))
        self.assertIsNone(some_ring(Net(3, ((0, 1), (0, 2), (1, 2)))))
        self.assertIn(some_ring(Net(2, ((0, 1), (1, 0)))), ((0, 1), (1, 0)))
        self.assertIn(some_ring(net=Net(4, ((0, 3), (1, 2), (2, 0), (3, 2)))), ((0, 3, 2), (3, 2, 0), (2, 0, 3)))

    def test_all_small_nets(self):
        for size in (1, 2, 3):
            for net in all_nets(size):
                self.check(net, has_ring(net, tuple(range(size))))

    def test_many_nets(self):
        for net in some_nets(11, 300):
            there = leads(net)
            self.check(net, any(there[i, i] for i in range(net.size)))

    def test_long_ones(self):
        arcs = tuple([(i, i + 1) for i in range(11)])
        self.check(Net(12, arcs), False)
        self.check(Net(12, arcs + ((11, 0),)), True)
        self.check(Net(12, arcs + ((11, 5),)), True)
        self.check(Net(12, arcs + ((11, 10),)), True)

    def check(self, net, there):
        ring = some_ring(net)
        self.assertEqual(some_ring(net), ring)
        if there:
            self.assertTrue(type(ring) is tuple and only_tuples(ring))
            self.assertTrue(ring_by_words(net, ring), (net.arcs, ring))
            self.assertIs(is_ring(net, ring), True)
        else:
            self.assertIsNone(ring, net.arcs)


class PartsOf(unittest.TestCase):
    def test_told_ones(self):
        for net, parts in (
            (Net(1, ()), ((0,),)),
            (Net(3, ()), ((0,), (1,), (2,))),
            (Net(3, ((0, 1), (1, 2))), ((2,), (1,), (0,))),
            (Net(3, ((1, 0), (2, 1))), ((0,), (1,), (2,))),
            (RING, ((3, 4), (0, 1, 2))),
            (Net(4, ((0, 3), (1, 2), (2, 1))), ((1, 2), (3,), (0,))),
            (Net(4, ((0, 3), (1, 2), (3, 0))), ((0, 3), (2,), (1,))),
            # As soon as place 2 is told, place 0 goes ahead of place 3, which could be told all along.
            (Net(4, ((0, 2), (1, 0))), ((2,), (0,), (1,), (3,))),
            (Net(5, ((0, 4), (1, 3))), ((2,), (3,), (1,), (4,), (0,))),
        ):
            self.assertEqual(parts_of(net), parts)
            self.assertEqual(parts_of(net=net), parts)

    def test_all_nets_of_three_places(self):
        for size in (1, 2, 3):
            for net in all_nets(size):
                self.assertEqual(parts_of(net), parts_by_words(net), net.arcs)

    def test_many_nets(self):
        for net in some_nets(12, 400):
            parts = parts_of(net)
            self.assertTrue(only_tuples(parts))
            self.assertEqual(parts, parts_by_words(net), net.arcs)
        for net in some_nets(13, 100, most=5):
            thin = Net(net.size, net.arcs[::2])
            self.assertEqual(parts_of(thin), parts_by_words(thin), thin.arcs)


class CanOrder(unittest.TestCase):
    def test_all_lots_of_small_nets(self):
        for size in (1, 2, 3):
            for net in all_nets(size):
                for many in range(size + 1):
                    for lot in itertools.combinations(range(size), many):
                        self.assertIs(can_order(net, lot), not has_ring(net, lot), (net.arcs, lot))

    def test_many_nets(self):
        for net in some_nets(14, 60, most=5):
            for many in range(net.size + 1):
                for lot in itertools.combinations(range(net.size), many):
                    self.assertIs(can_order(lot=lot, net=net), not has_ring(net, lot))

    def test_long_ones(self):
        arcs = tuple([(i, i + 1) for i in range(11)]) + ((11, 0),)
        everything = tuple(range(12))
        self.assertIs(can_order(Net(12, arcs), everything), False)
        self.assertIs(can_order(Net(12, arcs[:-1]), everything), True)
        self.assertIs(can_order(Net(12, arcs).turned(), everything), False)
        self.assertIs(can_order(Net(12, arcs[:-1]).turned(), everything), True)
        for k in range(12):
            self.assertIs(can_order(Net(12, arcs), everything[:k] + everything[k + 1:]), True)
        self.assertIs(can_order(RING, ()), True)

    def test_no_lot(self):
        fine = [lot for many in range(6) for lot in itertools.combinations(range(5), many)]
        for lot in any_values() + [
            (1, 0), (0, 0), (0, 1, 1), (5,), (0, 5), (-1,), (-1, 0), (True,), (False, 1), (0, True), [0, 1], [], (None,),
            ("0",), (0, (1,)), ((0,),), (2, 1, 0), (0, 2, 1), RING, (RING,), "", "01", (4, 3),
        ]:
            if not (isinstance(lot, tuple) and only_tuples(lot) and lot in fine):
                error = expect(self, InvalidLot, {"value": lot}, can_order, RING, lot)
                self.assertIs(error.value, lot)


if __name__ == "__main__":
    unittest.main()
