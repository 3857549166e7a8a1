"""Point [13]: the least telling and the greatest store; and what points [16] and [17] say of said of nets."""

import unittest

from keptandsaid.audiences import Audience
from keptandsaid.books import book_of
from keptandsaid.errors import TooMany
from keptandsaid.least import greatest_keeping, kept_most, least_telling, said_least
from keptandsaid.matrices import is_matrix, rank_of
from keptandsaid.nets import Net
from keptandsaid.rings import can_order, parts_of, some_ring
from keptandsaid.stores import first_unkept
from keptandsaid.tellings import first_unserved

from helper import FEW, FIELDS, Numbers, all_nets, any_values, expect, is_int, only_tuples, some_audiences, some_nets
from helper import said_by_trial, spaces_of, values

SMALL = {2: 4, 3: 3, 5: 2, 7: 2, 11: 1, 13: 1}

FIRST = (((1, 0),), ((0, 1),))
SECOND = (((0, 1),), ((1, 0),))
THIRD = (((1, 1),), ((1, 0),))


def kept_by_trial(audience, space):
    for knows, wants in audience.listeners:
        seen = {}
        for word in space:
            wanted = values(audience.p, wants, word)
            if seen.setdefault(values(audience.p, knows, word), wanted) != wanted:
                return False
    return True


def kept_most_by_trial(audience):
    return max(rank for rank, space in spaces_of(audience.p, audience.size) if kept_by_trial(audience, space))


def small_nets(seed, rounds):
    """Nets whose said can be told over these fields."""
    numbers = Numbers(seed)
    for net in some_nets(seed, rounds, 6):
        fields = [p for p in FIELDS if FEW[p] >= net.size]
        yield net, fields[numbers.below(len(fields))]


def greatest_without_ring(net):
    lots = [tuple(k for k in range(net.size) if taken >> k & 1) for taken in range(2 ** net.size)]
    return max(len(lot) for lot in lots if can_order(net, lot))


class Least(unittest.TestCase):
    def test_told_ones(self):
        listeners = (FIRST, SECOND, THIRD)
        for p, parts, said in ((2, listeners, 2), (3, listeners, 1), (2, listeners[:2], 1), (2, (), 0), (2, (FIRST,), 1)):
            self.check(Audience(p, 2, parts), said)
        self.assertEqual(said_least(audience=Audience(2, 2, listeners)), 2)
        self.assertEqual(kept_most(audience=Audience(3, 2, listeners)), 1)
        self.assertEqual(least_telling(audience=Audience(13, 3, ())), ())
        self.assertEqual(rank_of(13, greatest_keeping(audience=Audience(13, 3, ()))), 3)

    def test_nobody_nothing_and_all_known(self):
        for p in FIELDS:
            for size in range(1, FEW[p] + 1):
                whole = tuple(tuple(int(k == j) for k in range(size)) for j in range(size))
                self.check(Audience(p, size, ()), 0)
                self.check(Audience(p, size, (((), ()), (whole, ()), (whole, whole), (whole[:1], whole[:1]))), 0)
                self.check(Audience(p, size, (((), ((0,) * size,)),)), 0)
                self.check(Audience(p, size, (((), whole),)), size)
                self.check(Audience(p, size, ((((0,) * size,), whole + whole),)), size)
                self.check(Audience(p, size, ((whole[1:], whole),)), 1)
                self.check(Audience(p, size, [(whole[:j] + whole[j + 1:], whole[j:j + 1]) for j in range(size)]), 1)

    def test_against_all_spaces(self):
        found = set()
        for audience in some_audiences(131, 250, SMALL):
            said = said_by_trial(audience)
            self.assertEqual(kept_most_by_trial(audience), audience.size - said)
            self.check(audience, said)
            found.add((audience.p, said))
        self.assertTrue({(2, 0), (2, 1), (2, 2), (2, 3), (3, 1), (3, 2), (5, 1), (7, 2), (11, 1), (13, 1)} <= found, found)

    def test_against_all_spaces_of_more_columns(self):
        for audience in some_audiences(132, 12, {2: 5, 3: 4, 5: 3}):
            self.check(audience, said_by_trial(audience))

    def test_many_listeners(self):
        numbers = Numbers(133)
        for size in range(1, 5):
            for _ in range(8):
                audience = Audience(2, size, [
                    (numbers.matrix(2, numbers.below(size), size), numbers.matrix(2, 1, size)) for _ in range(12)
                ])
                self.check(audience, said_by_trial(audience))

    def test_edges_of_few_spaces(self):
        numbers = Numbers(134)
        for p, size in FEW.items():
            for known in range(size):
                audience = Audience(p, size, [
                    (numbers.matrix(p, known, size), numbers.matrix(p, 2, size)) for _ in range(12)
                ])
                self.check(audience, said_least(audience))
            ring = Net(size, [(i, (i + 1) % size) for i in range(size - 1)] + [(size - 1, 0)])
            self.check(ring.audience(p), size - 1)
            self.check(Net(size, ()).audience(p), size)

    def test_too_many_spaces(self):
        for p, size in FEW.items():
            for more in range(size + 1, 13):
                for audience in (Audience(p, more, ()), Net(more, ((0, 1), (1, 0))).audience(p)):
                    for call in (said_least, least_telling, kept_most, greatest_keeping):
                        expect(self, TooMany, {"what": "spaces"}, call, audience)
                    for r in any_values():
                        expect(self, TooMany, {"what": "spaces"}, book_of, audience, r)

    def test_leaving_a_listener_out(self):
        lowered = set()
        for audience in some_audiences(135, 150, FEW):
            said = said_least(audience)
            for k in range(len(audience.listeners)):
                less = said - said_least(audience.without_listener(k))
                self.assertTrue(0 <= less <= rank_of(audience.p, audience.listeners[k][1]), audience.listeners)
                lowered.add(less)
        self.assertEqual(lowered, {0, 1, 2})

    def test_knowing_a_row_more(self):
        numbers = Numbers(136)
        lowered = set()
        for audience in some_audiences(137, 150, FEW):
            said = said_least(audience)
            for k in range(len(audience.listeners)):
                less = said - said_least(audience.knowing(k, numbers.matrix(audience.p, 1, audience.size)))
                self.assertIn(less, (0, 1))
                lowered.add(less)
        self.assertEqual(lowered, {0, 1})

    def check(self, audience, said):
        telling = least_telling(audience)
        store = greatest_keeping(audience)
        for found in (said_least(audience), kept_most(audience)):
            self.assertTrue(is_int(found))
        self.assertEqual(said_least(audience), said, audience.listeners)
        self.assertEqual(said + kept_most(audience), audience.size)
        for rows, many in ((telling, said), (store, audience.size - said)):
            self.assertTrue(only_tuples(rows))
            self.assertTrue(is_matrix(rows, audience.p, audience.size))
            self.assertEqual(len(rows), many)
        self.assertEqual(rank_of(audience.p, store), len(store))
        self.assertIsNone(first_unserved(audience, telling))
        self.assertIsNone(first_unkept(audience, store))
        self.assertEqual(least_telling(audience), telling)
        self.assertEqual(greatest_keeping(audience), store)


class OfNets(unittest.TestCase):
    def test_told_ones(self):
        pairs = [(i, (i + 1) % 5) for i in range(5)] + [((i + 1) % 5, i) for i in range(5)]
        two_way = Net(5, sorted(pairs))
        for p, said in ((2, 3), (3, 3)):
            self.assertEqual(said_least(two_way.audience(p)), said)
        self.assertEqual(said_least(Net(1, ()).audience(2)), 1)

    def test_at_least_the_places_of_a_lot_without_a_ring(self):
        for net, p in small_nets(161, 100):
            self.assertGreaterEqual(said_least(net.audience(p)), greatest_without_ring(net))

    def test_size_if_there_is_no_ring_and_one_if_all_know_all(self):
        for size in (1, 2, 3):
            for net in all_nets(size):
                for p in FIELDS:
                    self.check_ends(net, p)
        for net, p in small_nets(162, 200):
            self.check_ends(net, p)

    def test_turned(self):
        for net, p in small_nets(163, 120):
            self.assertEqual(said_least(net.audience(p)), said_least(net.turned().audience(p)))

    def test_sum_over_the_parts(self):
        many = set()
        for net, p in small_nets(164, 150):
            parts = parts_of(net)
            self.assertEqual(said_least(net.audience(p)), sum(said_least(net.within(lot).audience(p)) for lot in parts))
            many.add(len(parts))
        self.assertTrue({1, 2, 3, 4} <= many)

    def check_ends(self, net, p):
        said = said_least(net.audience(p))
        self.assertEqual(said == net.size, some_ring(net) is None)
        self.assertEqual(said == 1, len(net.arcs) == net.size * (net.size - 1))


if __name__ == "__main__":
    unittest.main()
