"""Point [16]: bounds of nets."""

import itertools
import unittest

from keptandsaid.errors import TooMany, Undefined
from keptandsaid.fields import is_field
from keptandsaid.least import said_least
from keptandsaid.netbounds import friend_lots, ringless_lot, rings_apart, telling_by_friends, telling_by_rings
from keptandsaid.nets import Net
from keptandsaid.rings import is_ring, some_ring
from keptandsaid.tellings import first_unserved

from helper import FEW, FIELDS, Numbers, all_nets, any_values, expect, expect_number, is_int, only_tuples, some_nets
from helper import two_way_ring, whole_net


def lots_of(net):
    for many in range(1, net.size + 1):
        yield from itertools.combinations(range(net.size), many)


def has_ring(net, lot):
    """Whether some tuple of places of the lot is a ring."""
    return any(
        all(ring[k] in net.knows[ring[k - 1]] for k in range(many))
        for many in range(2, len(lot) + 1) for ring in itertools.permutations(lot, many)
    )


def has_ring_fast(net, lot):
    """As has_ring: from place to place, whether some walk within the lot comes back."""
    for start in lot:
        reached = {j for j in net.knows[start] if j in lot}
        for _ in lot:
            reached |= {k for j in reached for k in net.knows[j] if k in lot}
        if start in reached:
            return True
    return False


def friends(net, lot):
    return all(j in net.knows[i] for i in lot for j in lot if i != j)


def most_rings(net):
    """How many lots with a ring within them there can be, no two with a place in common, lot by lot."""
    ringed = [set(lot) for lot in lots_of(net) if has_ring_fast(net, lot)]
    known = {}

    def most(left):
        if left not in known:
            known[left] = max([1 + most(left - lot) for lot in ringed if lot <= left], default=0)
        return known[left]

    return most(frozenset(range(net.size)))


def fewest_friend_lots(net):
    lots = [set(lot) for lot in lots_of(net) if friends(net, lot)]
    known = {frozenset(): 0}

    def fewest(left):
        if left not in known:
            known[left] = min(1 + fewest(left - lot) for lot in lots if min(left) in lot and lot <= left)
        return known[left]

    return fewest(frozenset(range(net.size)))


def told_nets():
    for size in range(1, 9):
        yield Net(size, ())
        yield whole_net(size)
        yield Net(size, [(i, j) for i in range(size) for j in range(i)])
        if size > 2:
            yield two_way_ring(size)
            yield Net(size, [(i, (i + 1) % size) for i in range(size)])


class Bounds(unittest.TestCase):
    def test_told_ones(self):
        self.assertEqual(ringless_lot(two_way_ring(5)), (0, 2))
        self.assertEqual(len(rings_apart(two_way_ring(5))), 2)
        self.assertEqual(len(friend_lots(two_way_ring(5))), 3)
        self.assertEqual(ringless_lot(net=Net(3, ((0, 1), (1, 2), (2, 0)))), (0, 1))
        self.assertEqual(sorted(rings_apart(net=Net(3, ((0, 1), (1, 2), (2, 0))))[0]), [0, 1, 2])
        self.assertEqual(sorted(friend_lots(net=Net(3, ((0, 1), (1, 0), (2, 0))))), [(0, 1), (2,)])
        self.assertEqual(ringless_lot(Net(1, ())), (0,))
        self.assertEqual(rings_apart(Net(1, ())), ())
        self.assertEqual(friend_lots(Net(1, ())), ((0,),))

    def test_no_arcs_and_all_arcs(self):
        for size in range(1, 9):
            self.assertEqual(ringless_lot(Net(size, ())), tuple(range(size)))
            self.assertEqual(rings_apart(Net(size, ())), ())
            self.assertEqual(sorted(friend_lots(Net(size, ()))), [(k,) for k in range(size)])
            self.assertEqual(ringless_lot(whole_net(size)), (0,))
            self.assertEqual(len(rings_apart(whole_net(size))), size // 2)
            self.assertEqual(friend_lots(whole_net(size)), (tuple(range(size)),))

    def test_a_long_ring_and_a_short_one(self):
        # The ring of four takes a place of both others.
        net = Net(6, ((0, 1), (0, 4), (1, 2), (2, 3), (2, 5), (3, 0), (4, 0), (5, 2)))
        self.assertEqual(sorted(sorted(ring) for ring in rings_apart(net)), [[0, 4], [2, 5]])

    def test_small_nets(self):
        for size in (1, 2, 3):
            for net in all_nets(size):
                self.check(net)
                self.assertEqual(has_ring(net, tuple(range(size))), has_ring_fast(net, tuple(range(size))))

    def test_told_nets(self):
        for net in told_nets():
            self.check(net)

    def test_many(self):
        many = set()
        for net in some_nets(165, 120, 8):
            many.add(self.check(net))
        self.assertTrue({0, 1, 2, 3, 4} <= many, many)

    def test_sparse_nets(self):
        numbers = Numbers(166)
        for _ in range(80):
            size = 6 + numbers.below(3)
            pairs = [(i, j) for i in range(size) for j in range(size) if i != j]
            self.check(Net(size, [pair for pair in pairs if numbers.below(6) == 0]))

    def test_of_friends(self):
        numbers = Numbers(167)
        for _ in range(60):
            size = 4 + numbers.below(5)
            pairs = [(i, j) for i in range(size) for j in range(i) if numbers.below(3)]
            self.check(Net(size, sorted(pairs + [(j, i) for i, j in pairs])))

    def test_too_many_places(self):
        for size in (9, 10, 11, 12):
            for net in (Net(size, ()), whole_net(size)):
                for call in (ringless_lot, rings_apart, friend_lots):
                    expect(self, TooMany, {"what": "places"}, call, net)
                for call in (telling_by_rings, telling_by_friends):
                    for p in (2, 4, None, True):
                        for value in ((), None, [(0, 1)], tuple((k,) for k in range(size))):
                            expect(self, TooMany, {"what": "places"}, call, net, p, value)

    def check(self, net):
        lot = ringless_lot(net)
        ringless = [one for one in lots_of(net) if not has_ring_fast(net, one)]
        most = max(len(one) for one in ringless)
        self.assertEqual(lot, min(one for one in ringless if len(one) == most))
        rings = rings_apart(net)
        self.assertTrue(all(is_ring(net, ring) for ring in rings), rings)
        places = [place for ring in rings for place in ring]
        self.assertEqual(len(set(places)), len(places))
        self.assertEqual(len(rings), most_rings(net), net.arcs)
        lots = friend_lots(net)
        self.assertEqual(sorted(place for one in lots for place in one), list(range(net.size)))
        self.assertTrue(all(one and list(one) == sorted(one) and friends(net, one) for one in lots))
        self.assertEqual(len(lots), fewest_friend_lots(net), net.arcs)
        for found in (lot, rings, lots):
            self.assertTrue(only_tuples(found))
        self.assertTrue(all(is_int(place) for one in rings + lots + (lot,) for place in one))
        self.assertEqual((ringless_lot(net), rings_apart(net), friend_lots(net)), (lot, rings, lots))
        return len(rings)


class TellingByRings(unittest.TestCase):
    def test_told_ones(self):
        net = Net(5, ((0, 2), (1, 4), (2, 3), (3, 0), (4, 1)))
        self.assertEqual(telling_by_rings(net, 3, ((2, 3, 0), (4, 1))), (
            (0, 0, 1, 2, 0), (2, 0, 0, 1, 0), (0, 2, 0, 0, 1),
        ))
        self.assertEqual(telling_by_rings(net, 2, ((1, 4),)), (
            (0, 1, 0, 0, 1), (1, 0, 0, 0, 0), (0, 0, 1, 0, 0), (0, 0, 0, 1, 0),
        ))
        self.assertEqual(telling_by_rings(rings=((4, 1), (0, 2, 3)), p=13, net=net), (
            (0, 12, 0, 0, 1), (1, 0, 12, 0, 0), (0, 0, 1, 12, 0),
        ))

    def test_no_rings(self):
        for p in FIELDS:
            for size in range(1, 9):
                ones = tuple(tuple(int(k == j) for k in range(size)) for j in range(size))
                self.assertEqual(telling_by_rings(Net(size, ()), p, ()), ones)
                self.assertEqual(telling_by_rings(whole_net(size), p, ()), ones)

    def test_letter_by_letter(self):
        for net in list(some_nets(168, 80, 8)) + list(told_nets()):
            rings = rings_apart(net)
            for p in FIELDS:
                for some in (rings, rings[::-1], rings[1:]):
                    self.check(net, p, some)

    def test_any_rings(self):
        for net in some_nets(169, 30, 5):
            for many in range(2, net.size + 1):
                for ring in itertools.permutations(range(net.size), many):
                    if is_ring(net, ring):
                        self.check(net, 5, (ring,))

    def test_no_field_ahead_of_no_rings(self):
        net = Net(3, ((0, 1), (1, 0)))
        for p in any_values() + [4, 6, 9, 17]:
            if not is_field(p):
                for rings in ((), ((0, 1),), None, ((0, 2),)):
                    expect_number(self, p, telling_by_rings, net, p, rings)

    def test_no_rings_apart(self):
        net = two_way_ring(5)
        for rings in any_values() + [
            ((0, 1), (1, 2)), ((0, 1), (2, 3, 4)), ((0, 1), (0, 1)), [(0, 1)], ([0, 1],), ((0, 1), [2, 3]), (0, 1), ((),),
            ((0, 1), ()), ((0,),), ((0, 2),), ((0, 1, 2),), ((0, 5),), ((-1, 0),), ((False, 1),), ((0, 1, 0, 1),), ((1, 1),),
            ((0, 1), (4, 0)), ((0, 1, 2, 3, 4), (0, 1)), "01", (("0", "1"),), ((0, 1), None), ((0, 1), 2),
        ]:
            if not (isinstance(rings, tuple) and only_tuples(rings) and rings in ((), ((1, 0),))):
                expect(self, Undefined, {"what": "rings"}, telling_by_rings, net, 2, rings)

    def check(self, net, p, rings):
        telling = telling_by_rings(net, p, rings)
        rows = []
        for ring in rings:
            for k in range(len(ring) - 1):
                row = [0] * net.size
                row[ring[k]] = 1
                row[ring[k + 1]] = p - 1
                rows.append(tuple(row))
        for place in range(net.size):
            if not any(place in ring for ring in rings):
                rows.append(tuple(int(k == place) for k in range(net.size)))
        self.assertEqual(telling, tuple(rows))
        self.assertEqual(len(telling), net.size - len(rings))
        self.assertTrue(only_tuples(telling))
        self.assertTrue(all(is_int(letter) for row in telling for letter in row))
        self.assertIsNone(first_unserved(net.audience(p), telling))


class TellingByFriends(unittest.TestCase):
    def test_told_ones(self):
        net = Net(4, ((0, 2), (1, 3), (2, 0), (3, 0), (3, 1)))
        self.assertEqual(telling_by_friends(net, 3, ((0, 2), (1, 3))), ((1, 0, 1, 0), (0, 1, 0, 1)))
        self.assertEqual(telling_by_friends(net, 2, ((3,), (0, 2), (1,))), ((0, 0, 0, 1), (1, 0, 1, 0), (0, 1, 0, 0)))
        self.assertEqual(telling_by_friends(lots=((0,),), p=13, net=Net(1, ())), ((1,),))

    def test_letter_by_letter(self):
        for net in list(some_nets(170, 80, 8)) + list(told_nets()):
            lots = friend_lots(net)
            for p in FIELDS:
                for some in (lots, lots[::-1], tuple((place,) for place in range(net.size))):
                    telling = telling_by_friends(net, p, some)
                    self.assertEqual(telling, tuple(tuple(int(k in lot) for k in range(net.size)) for lot in some))
                    self.assertTrue(only_tuples(telling))
                    self.assertIsNone(first_unserved(net.audience(p), telling))

    def test_no_field_ahead_of_no_lots(self):
        net = Net(3, ((0, 1), (1, 0)))
        for p in any_values() + [4, 6, 9, 17]:
            if not is_field(p):
                for lots in (((0, 1), (2,)), (), None, ((0, 2), (1,))):
                    expect_number(self, p, telling_by_friends, net, p, lots)

    def test_no_friend_lots(self):
        net = Net(4, ((0, 1), (1, 0), (1, 2), (2, 0), (2, 1), (3, 2)))
        right = ((0, 1), (2,), (3,))
        self.assertEqual(len(telling_by_friends(net, 2, right)), 3)
        for lots in any_values() + [
            right[1:], right + ((3,),), right + ((0, 1),), right + ((),), ((),) + right, list(right), ([0, 1], (2,), (3,)),
            ((1, 0), (2,), (3,)), ((0, 2), (1,), (3,)), ((0, 1, 2), (3,)), ((0, 1), (2, 3)), ((0, 1), (1, 2), (3,)),
            ((0, 1), (2,), (4,)), ((0, 1), (2,), (3,), (4,)), ((0, 1), (2,), (-1,)), ((False, 1), (2,), (3,)),
            ((0, 1), 2, 3), ((0, 1), (2,), "3"), ((0, 1), (2,), (3, 3)), ((0, 1), (2,), None), ((0,), (True,), (2,), (3,)),
        ]:
            expect(self, Undefined, {"what": "lots"}, telling_by_friends, net, 2, lots)
        expect(self, Undefined, {"what": "lots"}, telling_by_friends, Net(1, ()), 2, ())


class Said(unittest.TestCase):
    """What point [16] says of said of a net's audience."""

    def nets(self, seed, rounds, fields=FIELDS):
        for net in some_nets(seed, rounds, 6):
            for p in fields:
                if net.size <= FEW[p]:
                    yield net, p, said_least(net.audience(p))

    def test_bounds(self):
        for net, p, said in self.nets(171, 60):
            self.assertGreaterEqual(said, len(ringless_lot(net)))
            self.assertLessEqual(said, net.size - len(rings_apart(net)))
            self.assertLessEqual(said, len(friend_lots(net)))

    def test_ends(self):
        for size in (1, 2, 3):
            for net in all_nets(size):
                said = said_least(net.audience(2))
                self.assertEqual(said == size, some_ring(net) is None)
                self.assertEqual(said == 1, net == whole_net(size))
                self.assertEqual(said, said_least(net.turned().audience(2)))

    def test_one_arc_more(self):
        lowered = set()
        for net, p, said in self.nets(172, 25, (2, 5)):
            for i, j in itertools.permutations(range(net.size), 2):
                if j not in net.knows[i]:
                    more = said_least(net.with_arc(i, j).audience(p))
                    self.assertLessEqual(more, said)
                    lowered.add(said - more)
        self.assertTrue({0, 1} <= lowered)

    def test_a_place_left_out(self):
        lowered = set()
        for net, p, said in self.nets(173, 40, (2, 3, 13)):
            if net.size > 1:
                for i in range(net.size):
                    less = said - said_least(net.without_place(i).audience(p))
                    self.assertIn(less, (0, 1))
                    lowered.add(less)
        self.assertEqual(lowered, {0, 1})


if __name__ == "__main__":
    unittest.main()
