"""Point [8]: nets."""

import itertools
import unittest

from keptandsaid.audiences import Audience
from keptandsaid.errors import InvalidLot, InvalidNet, Undefined
from keptandsaid.nets import Net

from helper import FIELDS, any_values, deep, expect, expect_number, is_int, only_tuples, some_nets

CHAIN = ((0, 1), (1, 2), (2, 0), (2, 1))

NO_ARCS = [
    None, 0, 1, True, "", "01", (), [], [0, 1], (0,), (0, 1, 2), (0, 0), (2, 2), (0, 3), (3, 0), (-1, 0), (0, -1),
    (0, True), (True, 2), (False, 1), (0, None), ("0", "1"), (0, (1,)), ((0, 1),), deep(0, 10), (0, 10 ** 30), ((0, 1), 2),
]


def expect_part(case, part, place, *args):
    expect(case, InvalidNet, {"part": part, "place": place}, Net, *args)


def values_and_nets():
    return any_values() + [Net(3, CHAIN), (Net(1, ()),)]


def lots_of(size):
    return [lot for many in range(size + 1) for lot in itertools.combinations(range(size), many)]


class Making(unittest.TestCase):
    def test_attributes(self):
        for arcs in (CHAIN, list(CHAIN)):
            net = Net(3, arcs)
            self.assertEqual((net.size, net.arcs), (3, CHAIN))
            self.assertEqual(net.knows, ((1,), (2,), (0, 1)))
            self.assertTrue(only_tuples(net.arcs) and only_tuples(net.knows))
        net = Net(arcs=[], size=2)
        self.assertEqual((net.size, net.arcs, net.knows), (2, (), ((), ())))
        self.assertTrue(only_tuples(net.arcs) and only_tuples(net.knows))

    def test_one_and_twelve_places(self):
        net = Net(1, ())
        self.assertEqual((net.size, net.arcs, net.knows), (1, (), ((),)))
        arcs = [(i, j) for i in range(12) for j in range(12) if i != j]
        net = Net(12, arcs)
        self.assertEqual((net.size, net.arcs), (12, tuple(arcs)))
        self.assertEqual(net.knows, tuple([tuple([j for j in range(12) if j != i]) for i in range(12)]))

    def test_knows(self):
        for net in some_nets(1, 200):
            for i in range(net.size):
                self.assertEqual(net.knows[i], tuple([j for j in range(net.size) if (i, j) in net.arcs]))

    def test_later_changes_have_no_effect(self):
        arcs = [(0, 1)]
        net = Net(2, arcs)
        arcs.append((1, 0))
        arcs[0] = None
        self.assertEqual((net.arcs, net.knows), (((0, 1),), ((1,), ())))
        self.assertEqual(arcs, [None, (1, 0)])


class WrongMaking(unittest.TestCase):
    def test_size(self):
        for size in values_and_nets() + [13, 100]:
            if not (is_int(size) and 1 <= size <= 12):
                for arcs in ((), None, [(0, 0)]):
                    expect_part(self, "size", 0, size, arcs)

    def test_no_sequence(self):
        for arcs in values_and_nets():
            if not isinstance(arcs, (list, tuple)):
                expect_part(self, "arcs", 0, 3, arcs)

    def test_no_arc(self):
        for wrong in NO_ARCS:
            expect_part(self, "arcs", 0, 3, (wrong,))
            expect_part(self, "arcs", 0, 3, [wrong, (0, 1)])
            expect_part(self, "arcs", 1, 3, ((0, 1), wrong))
            expect_part(self, "arcs", 2, 3, [(0, 1), (0, 2), wrong, None])

    def test_values_of_every_kind_as_arcs(self):
        for value in values_and_nets():
            if value != (1, 0) or not isinstance(value, tuple):
                expect_part(self, "arcs", 1, 3, ((0, 1), value))

    def test_arcs_rise(self):
        expect_part(self, "arcs", 1, 3, ((0, 1), (0, 1)))
        expect_part(self, "arcs", 1, 3, ((0, 2), (0, 1)))
        expect_part(self, "arcs", 1, 3, ((1, 0), (0, 2)))
        expect_part(self, "arcs", 2, 3, [(0, 1), (2, 0), (1, 2), (1, 0)])
        expect_part(self, "arcs", 3, 3, [(0, 1), (1, 0), (2, 0), (2, 0)])
        expect_part(self, "arcs", 2, 3, [(0, 1), (1, 0), (0, 1)])
        self.assertEqual(Net(3, [(0, 1), (1, 0), (2, 0)]).size, 3)

    def test_places_depend_on_the_size(self):
        for size in range(1, 13):
            expect_part(self, "arcs", 0, size, ((0, size),))
            expect_part(self, "arcs", 0, size, ((size, 0),))
            if size > 1:
                self.assertEqual(Net(size, ((0, size - 1),)).arcs, ((0, size - 1),))


class Equality(unittest.TestCase):
    def test_equal(self):
        for other in (Net(3, CHAIN), Net(3, list(CHAIN))):
            self.assertIs(Net(3, CHAIN) == other, True)
            self.assertIs(Net(3, CHAIN) != other, False)

    def test_unlike(self):
        for one, other in (
            (Net(3, CHAIN), Net(4, CHAIN)), (Net(3, CHAIN), Net(3, CHAIN[:3])), (Net(1, ()), Net(2, ())),
            (Net(3, ()), Net(3, CHAIN)), (Net(2, ((0, 1),)), Net(2, ((1, 0),))),
        ):
            self.assertIs(one == other, False)
            self.assertIs(one != other, True)
            self.assertIs(other == one, False)

    def test_to_nothing_else(self):
        net = Net(2, ((0, 1),))
        for other in any_values() + [(2, ((0, 1),)), net.arcs, [net], Net, net.audience(2)]:
            self.assertIs(net == other, False)
            self.assertIs(net != other, True)
            self.assertIs(other == net, False)
            self.assertIs(other != net, True)


class AudienceOfNet(unittest.TestCase):
    def test_told_one(self):
        self.assertEqual(Net(3, CHAIN).audience(2), Audience(2, 3, (
            (((0, 1, 0),), ((1, 0, 0),)),
            (((0, 0, 1),), ((0, 1, 0),)),
            (((1, 0, 0), (0, 1, 0)), ((0, 0, 1),)),
        )))
        self.assertEqual(Net(1, ()).audience(p=13), Audience(13, 1, (((), ((1,),)),)))

    def test_any(self):
        for net in some_nets(2, 60):
            for p in FIELDS:
                audience = net.audience(p)
                self.assertEqual((audience.p, audience.size, len(audience.listeners)), (p, net.size, net.size))
                self.assertTrue(only_tuples(audience.listeners))
                for i, (knows, wants) in enumerate(audience.listeners):
                    self.assertEqual([row.index(1) for row in knows], list(net.knows[i]))
                    self.assertEqual([row.index(1) for row in wants], [i])
                    self.assertTrue(all(sum(row) == 1 and len(row) == net.size for row in knows + wants))

    def test_no_field(self):
        for p in values_and_nets() + [4, 6, 9, 17]:
            if not (is_int(p) and p in FIELDS):
                expect_number(self, p, Net(3, CHAIN).audience, p)


class Arcs(unittest.TestCase):
    def test_turned(self):
        self.assertEqual(Net(3, CHAIN).turned(), Net(3, ((0, 2), (1, 0), (1, 2), (2, 1))))
        self.assertEqual(Net(2, ()).turned(), Net(2, ()))
        for net in some_nets(3, 100):
            turned = net.turned()
            self.assertEqual(turned.size, net.size)
            self.assertEqual(set(turned.arcs), {(j, i) for i, j in net.arcs})
            self.assertEqual(turned.turned(), net)

    def test_with_arc_and_without_arc(self):
        for net in some_nets(4, 60):
            for i in range(net.size):
                for j in range(net.size):
                    if (i, j) in net.arcs:
                        expect(self, Undefined, {"what": "arc"}, net.with_arc, i, j)
                        less = net.without_arc(i, j)
                        self.assertEqual(less.size, net.size)
                        self.assertEqual(set(less.arcs), set(net.arcs) - {(i, j)})
                        self.assertEqual(less.with_arc(j=j, i=i), net)
                    else:
                        expect(self, Undefined, {"what": "arc"}, net.without_arc, i, j)
                        if i == j:
                            expect(self, Undefined, {"what": "arc"}, net.with_arc, i, j)
                        else:
                            more = net.with_arc(i, j)
                            self.assertEqual(more.size, net.size)
                            self.assertEqual(set(more.arcs), set(net.arcs) | {(i, j)})
                            self.assertEqual(more.without_arc(j=j, i=i), net)

    def test_the_first_that_is_no_place(self):
        net = Net(3, CHAIN)
        for call in (net.with_arc, net.without_arc):
            for wrong in values_and_nets() + [3, 11]:
                if not (is_int(wrong) and 0 <= wrong < 3):
                    expect_number(self, wrong, call, wrong, 0)
                    expect_number(self, wrong, call, wrong, 100)
                    expect_number(self, wrong, call, 0, wrong)
                    expect_number(self, wrong, call, wrong, wrong)


class Places(unittest.TestCase):
    def test_without_place(self):
        net = Net(4, ((0, 1), (1, 2), (1, 3), (2, 0), (3, 1), (3, 2)))
        self.assertEqual(net.without_place(0), Net(3, ((0, 1), (0, 2), (2, 0), (2, 1))))
        self.assertEqual(net.without_place(1), Net(3, ((1, 0), (2, 1))))
        self.assertEqual(net.without_place(2), Net(3, ((0, 1), (1, 2), (2, 1))))
        self.assertEqual(net.without_place(i=3), Net(3, ((0, 1), (1, 2), (2, 0))))
        self.assertEqual(Net(2, ((0, 1),)).without_place(0), Net(1, ()))

    def test_without_place_is_within_the_others(self):
        for net in some_nets(5, 60):
            for i in range(net.size):
                if net.size == 1:
                    expect(self, Undefined, {"what": "place"}, net.without_place, i)
                else:
                    others = tuple([j for j in range(net.size) if j != i])
                    self.assertEqual(net.without_place(i), net.within(others))

    def test_without_no_place(self):
        for net in (Net(3, CHAIN), Net(1, ())):
            for wrong in values_and_nets() + [3]:
                if not (is_int(wrong) and 0 <= wrong < net.size):
                    expect_number(self, wrong, net.without_place, wrong)

    def test_within(self):
        net = Net(4, ((0, 1), (1, 2), (1, 3), (2, 0), (3, 1), (3, 2)))
        self.assertEqual(net.within((1, 3)), Net(2, ((0, 1), (1, 0))))
        self.assertEqual(net.within((2,)), Net(1, ()))
        self.assertEqual(net.within(lot=(0, 1, 2, 3)), net)
        for net in some_nets(6, 40, most=6):
            for lot in lots_of(net.size)[1:]:
                part = net.within(lot)
                self.assertEqual(part.size, len(lot))
                self.assertEqual({(lot[i], lot[j]) for i, j in part.arcs},
                                 {(i, j) for i, j in net.arcs if i in lot and j in lot})

    def test_within_no_lot(self):
        net = Net(4, ((0, 1), (1, 2)))
        fine = lots_of(4)[1:]
        wrong = values_and_nets() + [
            (), (1, 0), (0, 0), (0, 1, 1), (2, 1), (4,), (0, 4), (-1, 0), (0, True), (False,), (True, 2), [0, 1], [0],
            (0, None), ("0",), (0, (1,)), (3, 2, 1), (0, 2, 1, 3),
        ]
        for lot in wrong:
            if not (isinstance(lot, tuple) and only_tuples(lot) and lot in fine):
                error = expect(self, InvalidLot, {"value": lot}, net.within, lot)
                self.assertIs(error.value, lot)

    def test_renamed(self):
        net = Net(3, ((0, 1), (0, 2), (1, 2)))
        self.assertEqual(net.renamed((0, 1, 2)), net)
        self.assertEqual(net.renamed((2, 1, 0)), Net(3, ((1, 0), (2, 0), (2, 1))))
        self.assertEqual(net.renamed(order=(1, 2, 0)), Net(3, ((0, 1), (2, 0), (2, 1))))
        self.assertEqual(Net(1, ()).renamed((0,)), Net(1, ()))
        for net in some_nets(7, 40, most=4):
            for order in itertools.permutations(range(net.size)):
                new = net.renamed(order)
                self.assertEqual(new.size, net.size)
                for k in range(net.size):
                    self.assertEqual({order[j] for j in new.knows[k]}, set(net.knows[order[k]]))

    def test_renamed_by_no_order(self):
        net = Net(3, CHAIN)
        wrong = values_and_nets() + [
            (0, 1), (0, 1, 2, 2), (0, 1, 1), (0, 0, 2), (0, 1, 3), (1, 2, 3), (-1, 0, 1), [0, 1, 2], (0, True, 2),
            (False, 1, 2), (0, 1, None), ("0", 1, 2), (0, 1, (2,)), (0, 1, 2, 3), (2, 1), (0, 1, 2, 0),
        ]
        for order in wrong:
            error = expect(self, InvalidLot, {"value": order}, net.renamed, order)
            self.assertIs(error.value, order)


class Unchanged(unittest.TestCase):
    def test_it_stays_as_it_was(self):
        net = Net(3, CHAIN)
        knows = net.knows
        for call in (
            lambda: net.audience(2), net.turned, lambda: net.with_arc(0, 2), lambda: net.without_arc(0, 1),
            lambda: net.without_place(1), lambda: net.within((0, 2)), lambda: net.renamed((2, 0, 1)),
        ):
            self.assertEqual(call(), call())
            self.assertEqual(net, Net(3, CHAIN))
            self.assertEqual(net.knows, knows)
        for call in (
            lambda: net.audience(4), lambda: net.with_arc(0, 1), lambda: net.without_arc(0, 2),
            lambda: net.without_place(3), lambda: net.within(()), lambda: net.renamed(()),
        ):
            with self.assertRaises(ValueError):
                call()
            self.assertEqual(net, Net(3, CHAIN))


if __name__ == "__main__":
    unittest.main()
