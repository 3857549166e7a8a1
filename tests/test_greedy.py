"""Point [21]: greedy broadcasts and told rows."""

import unittest

from keptandsaid.broadcasts import first_wrong
from keptandsaid.errors import Undefined
from keptandsaid.greatest import greatest_store
from keptandsaid.greedy import greedy_broadcast, told_row
from keptandsaid.nets import Net

from helper import Numbers, all_words, any_values, check_words_errors, expect, expect_number, is_int, nets_and_letters
from helper import only_tuples, places_by_trial, some_store, some_words, two_way_ring

RING = Net(2, ((0, 1), (1, 0)))


def greedy_by_words(net, q, store):
    """The signals laid word by word as the document tells."""
    words = all_words(net, q)
    signals = {}
    signal = 0
    while len(signals) < len(words):
        best = None
        for by in words:
            shifted = sorted(tuple((a + b) % q for a, b in zip(word, by)) for word in store)
            free = [word for word in shifted if word not in signals]
            if best is None or len(free) > len(best):
                best = free
        for word in best:
            signals[word] = signal
        signal += 1
    return tuple(signals[word] for word in words)


def row_by_words(total, words):
    row = [total]
    while row[-1] != 0:
        whole, rest = divmod(row[-1] * words, total)
        row.append(row[-1] - whole - (1 if rest else 0))
    return tuple(row)


class GreedyBroadcast(unittest.TestCase):
    def test_told_ones(self):
        self.assertEqual(greedy_broadcast(RING, 2, ((0, 0), (1, 1))), (0, 1, 1, 0))
        self.assertEqual(greedy_broadcast(words=((0, 0),), q=2, net=RING), (0, 1, 2, 3))
        self.assertEqual(greedy_broadcast(RING, 3, ((0, 0), (1, 1), (2, 2))), (0, 1, 2, 2, 0, 1, 1, 2, 0))
        # Shifted by (0, 0) this word stays, and so the last word gets the first signal.
        self.assertEqual(greedy_broadcast(RING, 2, ((1, 1),)), (3, 2, 1, 0))
        # Behind signal 2 each shift has at most one word without a signal.
        self.assertEqual(greedy_broadcast(RING, 3, ((0, 0), (1, 2))), (0, 1, 2, 1, 2, 0, 4, 5, 3))

    def test_of_one_word(self):
        for net, q in nets_and_letters(321, 25):
            words = all_words(net, q)
            for word in (words[0], words[-1], words[len(words) // 2]):
                self.check(net, q, (word,))
                self.assertEqual(sorted(greedy_broadcast(net, q, (word,))), list(range(len(words))))

    def test_of_greatest_stores(self):
        for net, q in nets_and_letters(322, 40):
            if q ** net.size <= 32:
                self.check(net, q, greatest_store(net, q))
        self.check(two_way_ring(5), 2, greatest_store(two_way_ring(5), 2))

    def test_of_drawn_words(self):
        numbers = Numbers(323)
        undefined = 0
        for net, q in nets_and_letters(324, 40):
            self.check(net, q, some_store(net, q, numbers))
            for share in (8, 16):
                words = some_words(net, q, numbers, share)
                if not words or any(places_by_trial(net, one, other) for one in words for other in words):
                    undefined += 1
                    expect(self, Undefined, {"what": "store"}, greedy_broadcast, net, q, words)
                else:
                    self.check(net, q, words)
        self.assertGreater(undefined, 50)

    def test_no_store(self):
        for net, q in ((RING, 2), (Net(4, ()), 3), (Net(1, ()), 5), (two_way_ring(6), 2)):
            expect(self, Undefined, {"what": "store"}, greedy_broadcast, net, q, ())
            expect(self, Undefined, {"what": "store"}, greedy_broadcast, net, q, tuple(all_words(net, q)))
        expect(self, Undefined, {"what": "store"}, greedy_broadcast, RING, 2, ((0, 0), (0, 1)))

    def test_errors_in_order(self):
        check_words_errors(self, greedy_broadcast, ())
        check_words_errors(self, greedy_broadcast, (), RING, 3)
        check_words_errors(self, greedy_broadcast, (), Net(1, ()), 4)

    def check(self, net, q, store):
        signals = greedy_broadcast(net, q, store)
        self.assertEqual(signals, greedy_by_words(net, q, store))
        self.assertTrue(only_tuples(signals) and all(is_int(signal) for signal in signals))
        self.assertIsNone(first_wrong(net, q, signals))
        self.assertLessEqual(len(set(signals)), len(told_row(q ** net.size, len(store))) - 1)


class ToldRow(unittest.TestCase):
    def test_told_ones(self):
        self.assertEqual(told_row(4, 2), (4, 2, 1, 0))
        self.assertEqual(told_row(words=1, total=3), (3, 2, 1, 0))
        self.assertEqual(told_row(1, 1), (1, 0))
        self.assertEqual(told_row(200, 200), (200, 0))
        self.assertEqual(told_row(32, 5), (32, 27, 22, 18, 15, 12, 10, 8, 6, 5, 4, 3, 2, 1, 0))

    def test_all_up_to_two_hundred(self):
        for total in range(1, 201):
            for words in range(1, total + 1):
                row = told_row(total, words)
                self.assertEqual(row, row_by_words(total, words))
                self.assertEqual((row[0], row[-1]), (total, 0))
            self.assertTrue(only_tuples(row))

    def test_one_word_takes_one_each_time(self):
        for total in (1, 2, 7, 81, 200):
            self.assertEqual(told_row(total, 1), tuple(range(total, -1, -1)))

    def test_no_total_ahead_of_no_words(self):
        for total in any_values() + ["a text", 2.0]:
            if not (is_int(total) and total >= 1):
                for words in (1, 0, None, True, "1"):
                    expect_number(self, total, told_row, total, words)

    def test_no_words(self):
        for total in (1, 2, 12, 200):
            for words in [0, total + 1, -1, True, False, "1", "a text", 1.0, None, (1,), [1], 10 ** 30]:
                expect_number(self, words, told_row, total, words)
            for words in any_values():
                if not (is_int(words) and 1 <= words <= total):
                    expect_number(self, words, told_row, total, words)


if __name__ == "__main__":
    unittest.main()
