"""Point [20]: greatest stores, and words that all exclude one another."""

import itertools
import unittest

from keptandsaid.errors import InvalidLot, TooMany, Undefined
from keptandsaid.greatest import all_exclude, greatest_store, ringless_words
from keptandsaid.least import kept_most
from keptandsaid.making import nets_beside, nets_one_way
from keptandsaid.netbounds import rings_apart
from keptandsaid.nets import Net
from keptandsaid.rings import can_order
from keptandsaid.words import first_clash

from helper import FEW, FIELDS, Numbers, all_nets, all_words, check_words_errors, expect, expect_number, lots_of
from helper import nets_and_letters, no_letters, no_lots, only_tuples, places_by_trial, right_signals, some_nets
from helper import some_store, some_words, two_way_ring, whole_net

RING = Net(2, ((0, 1), (1, 0)))


def greatest_by_trial(net, q):
    """How many words the greatest of all stores has, where each store grows by later words."""
    words = all_words(net, q)
    excluded = [
        sum(1 << j for j, other in enumerate(words) if places_by_trial(net, one, other)) for one in words
    ]
    most = 0
    grown = [(0, 0, 0)]
    while grown:
        start, barred, many = grown.pop()
        most = max(most, many)
        grown.extend((k + 1, barred | excluded[k], many + 1) for k in range(start, len(words)) if not barred >> k & 1)
    return most


def small_ones(seed, rounds):
    """Nets and q with at most 32 words."""
    for net, q in nets_and_letters(seed, rounds):
        if q ** net.size <= 32:
            yield net, q


class GreatestStore(unittest.TestCase):
    def test_told_ones(self):
        self.check(RING, 2, 2)
        self.check(two_way_ring(5), 2, 5)
        self.check(two_way_ring(3), 3, 9)
        self.assertEqual(len(greatest_store(q=4, net=RING)), 4)
        self.check(Net(3, ((0, 1), (1, 2), (2, 0))), 3, 3)

    def test_without_arcs_and_with_all(self):
        for size, q in ((1, 2), (1, 3), (1, 4), (1, 5), (2, 2), (2, 3), (2, 4), (2, 5), (3, 2), (3, 3), (4, 2), (5, 2)):
            self.check(Net(size, ()), q, 1)
            self.check(whole_net(size), q, q ** (size - 1))

    def test_against_all_stores_of_all_small_nets(self):
        for size in (1, 2, 3):
            for net in all_nets(size):
                for q in range(2, 6):
                    if q ** size <= 32:
                        self.check(net, q, greatest_by_trial(net, q))

    def test_against_all_stores_of_more_places(self):
        found = set()
        for net in some_nets(301, 300, 5):
            if net.size > 3 and len(net.arcs) < 20:
                most = greatest_by_trial(net, 2)
                self.check(net, 2, most)
                found.add(most)
        self.assertTrue({1, 2, 4, 8} <= found, found)
        self.check(two_way_ring(5), 2, greatest_by_trial(two_way_ring(5), 2))
        self.check(two_way_ring(4), 2, greatest_by_trial(two_way_ring(4), 2))

    def test_too_many_words(self):
        for size, q in ((6, 2), (4, 3), (3, 4)):
            for net in (Net(size, ()), whole_net(size), two_way_ring(size)):
                expect(self, TooMany, {"what": "words"}, greatest_store, net, q)

    def test_no_letters_ahead_of_too_many_words(self):
        for net in (RING, Net(3, ()), Net(4, ()), Net(6, ()), Net(12, ())):
            for q in no_letters(net):
                expect_number(self, q, greatest_store, net, q)

    def test_at_least_rings_apart(self):
        for net, q in small_ones(302, 120):
            self.assertGreaterEqual(len(greatest_store(net, q)), q ** len(rings_apart(net)))

    def test_at_least_kept_of_sums(self):
        found = set()
        for net, q in small_ones(303, 120):
            if q in FIELDS and net.size <= FEW[q]:
                kept = kept_most(net.audience(q))
                self.assertGreaterEqual(len(greatest_store(net, q)), q ** kept)
                found.add(kept)
        self.assertTrue({0, 1, 2} <= found)
        self.assertGreater(len(greatest_store(two_way_ring(5), 2)), 2 ** kept_most(two_way_ring(5).audience(2)))

    def test_multiplies(self):
        nets = [net for size in (1, 2, 3) for net in all_nets(size)][::3] + list(some_nets(304, 12, 4))
        for one, other in itertools.product(nets, nets[::4]):
            for q in range(2, 6):
                if q ** (one.size + other.size) <= 32:
                    many = len(greatest_store(one, q)) * len(greatest_store(other, q))
                    self.assertEqual(len(greatest_store(nets_beside(one, other), q)), many)
                    self.assertEqual(len(greatest_store(nets_one_way(one, other), q)), many)
                    self.assertEqual(len(greatest_store(nets_one_way(other, one), q)), many)

    def test_signals_times_the_greatest_are_at_least_all_words(self):
        numbers = Numbers(305)
        for net, q in small_ones(306, 60):
            store = greatest_store(net, q)
            for _ in range(3):
                signals = right_signals(net, q, numbers)
                self.assertGreaterEqual(len(set(signals)) * len(store), q ** net.size)

    def check(self, net, q, most):
        store = greatest_store(net, q)
        self.assertEqual(len(store), most, (net.size, net.arcs, q))
        self.assertIsNone(first_clash(net, q, store))
        self.assertTrue(only_tuples(store))
        self.assertEqual(greatest_store(Net(net.size, list(net.arcs)), q), store)


class AllExclude(unittest.TestCase):
    def test_told_ones(self):
        self.assertIs(all_exclude(RING, 2, ((0, 0), (0, 1))), True)
        self.assertIs(all_exclude(RING, 2, ((0, 0), (1, 1))), False)
        self.assertIs(all_exclude(words=((0, 0), (0, 1), (1, 0)), q=2, net=RING), False)
        self.assertIs(all_exclude(RING, 5, tuple((0, k) for k in range(5))), True)
        for net, q in ((RING, 2), (Net(4, ()), 3), (Net(1, ()), 5)):
            self.assertIs(all_exclude(net, q, ()), True)
            self.assertIs(all_exclude(net, q, ((q - 1,) * net.size,)), True)
            self.assertIs(all_exclude(net, q, tuple(all_words(net, q))), len(net.arcs) == 0)

    def test_against_all_pairs(self):
        numbers = Numbers(307)
        found = {True: 0, False: 0}
        for net, q in nets_and_letters(308, 100):
            for share in (2, 5, 12, 20):
                words = some_words(net, q, numbers, share)
                if numbers.below(2) == 0:
                    words = some_exclusive(net, q, numbers)
                    if len(words) < q ** net.size and numbers.below(2) == 0:
                        words = tuple(sorted(set(words + (all_words(net, q)[numbers.below(q ** net.size)],))))
                told = all(places_by_trial(net, one, other) for one, other in itertools.combinations(words, 2))
                self.assertIs(all_exclude(net, q, words), told)
                found[told] += 1
        self.assertTrue(found[True] > 100 and found[False] > 100, found)

    def test_errors_in_order(self):
        check_words_errors(self, all_exclude, ())
        check_words_errors(self, all_exclude, (), Net(1, ()), 3)

    def test_no_more_words_in_a_store_and_no_fewer_signals(self):
        numbers = Numbers(309)
        many = set()
        for net, q in nets_and_letters(310, 60):
            words = some_exclusive(net, q, numbers)
            self.assertIs(all_exclude(net, q, words), True)
            self.assertLessEqual(len(some_store(net, q, numbers)) * len(words), q ** net.size)
            if q ** net.size <= 32:
                self.assertLessEqual(len(greatest_store(net, q)) * len(words), q ** net.size)
            self.assertGreaterEqual(len(set(right_signals(net, q, numbers))), len(words))
            many.add(len(words))
        self.assertTrue(len(many) > 4, many)


def some_exclusive(net, q, numbers):
    """Words that all exclude one another, taken in a changing order."""
    words = all_words(net, q)
    found = []
    for _ in range(len(words)):
        word = words.pop(numbers.below(len(words)))
        if all(places_by_trial(net, word, other) for other in found):
            found.append(word)
    return tuple(sorted(found))


class RinglessWords(unittest.TestCase):
    def test_told_ones(self):
        self.assertEqual(ringless_words(RING, 2, (1,)), ((0, 0), (0, 1)))
        self.assertEqual(ringless_words(RING, 3, (0,)), ((0, 0), (1, 0), (2, 0)))
        self.assertEqual(ringless_words(lot=(), q=2, net=RING), ((0, 0),))
        net = Net(3, ((0, 1), (1, 2), (2, 0)))
        self.assertEqual(ringless_words(net, 2, (0, 2)), ((0, 0, 0), (0, 0, 1), (1, 0, 0), (1, 0, 1)))
        self.assertEqual(len(ringless_words(Net(4, ()), 3, (0, 1, 2, 3))), 81)

    def test_against_all_words_for_all_lots(self):
        undefined = 0
        for net, q in nets_and_letters(311, 40):
            for lot in lots_of(net.size):
                if can_order(net, lot):
                    words = ringless_words(net, q, lot)
                    self.assertEqual(words, tuple(
                        word for word in all_words(net, q)
                        if all(letter == 0 for place, letter in enumerate(word) if place not in lot)
                    ))
                    self.assertTrue(only_tuples(words))
                    self.assertIs(all_exclude(net, q, words), True)
                else:
                    undefined += 1
                    expect(self, Undefined, {"what": "ring"}, ringless_words, net, q, lot)
        self.assertGreater(undefined, 100)

    def test_errors_in_order(self):
        for net in (RING, Net(4, ()), Net(6, ()), Net(12, ())):
            for q in no_letters(net):
                for lot in ((), (0, 1), None, (1, 0)):
                    expect_number(self, q, ringless_words, net, q, lot)
        for net, q in ((RING, 2), (Net(1, ()), 5), (Net(4, ()), 3), (whole_net(6), 2)):
            for lot in no_lots(net.size):
                error = expect(self, InvalidLot, {"value": lot}, ringless_words, net, q, lot)
                self.assertIs(error.value, lot)
        expect(self, Undefined, {"what": "ring"}, ringless_words, RING, 2, (0, 1))


if __name__ == "__main__":
    unittest.main()
