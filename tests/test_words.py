"""Point [18]: words of any kind."""

import itertools
import unittest

from keptandsaid.errors import InvalidWord
from keptandsaid.nets import Net
from keptandsaid.words import every_word, excluding_place, first_clash, shifted_words

from helper import MOST, Numbers, all_nets, all_words, check_words_errors, expect, expect_number, nets_and_letters
from helper import no_letters, no_words, only_tuples, places_by_trial, some_store, some_words


def clash_by_trial(net, words):
    for one, other in sorted(itertools.combinations(words, 2)):
        places = places_by_trial(net, one, other)
        if places:
            return (one, other, places[0])
    return None


class EveryWord(unittest.TestCase):
    def test_told_ones(self):
        self.assertEqual(every_word(Net(2, ()), 2), ((0, 0), (0, 1), (1, 0), (1, 1)))
        self.assertEqual(every_word(q=5, net=Net(1, ())), ((0,), (1,), (2,), (3,), (4,)))

    def test_all(self):
        for net, q in nets_and_letters(181, 40):
            self.assertEqual(every_word(net, q), tuple(all_words(net, q)))
        self.assertEqual(len(every_word(Net(4, ()), 3)), 81)
        self.assertEqual(len(every_word(Net(6, ()), 2)), 64)
        self.assertEqual(len(every_word(Net(3, ()), 4)), 64)

    def test_no_letters(self):
        for size in range(1, 13):
            net = Net(size, ())
            for q in range(2, 6):
                if size <= MOST[q]:
                    self.assertEqual(len(every_word(net, q)), q ** size)
                else:
                    expect_number(self, q, every_word, net, q)
            for q in no_letters(net):
                expect_number(self, q, every_word, net, q)


class ExcludingPlace(unittest.TestCase):
    def test_told_ones(self):
        net = Net(3, ((0, 1), (1, 2)))
        for one, other, place in [
            ((0, 0, 0), (1, 0, 0), 0), ((0, 0, 0), (1, 1, 0), 1), ((0, 0, 0), (1, 1, 1), 2), ((0, 0, 0), (1, 0, 1), 0),
            ((0, 0, 0), (0, 0, 0), None), ((0, 1, 0), (0, 0, 0), 1),
        ]:
            self.assertEqual(excluding_place(net, 2, one, other), place)
            self.assertEqual(excluding_place(other=one, one=other, q=2, net=net), place)
        ring = Net(2, ((0, 1), (1, 0)))
        self.assertIsNone(excluding_place(ring, 3, (0, 1), (1, 2)))
        self.assertEqual(excluding_place(ring, 3, (0, 1), (0, 2)), 1)

    def test_all_pairs(self):
        for size in (1, 2):
            for net in all_nets(size):
                for q in range(2, 6):
                    self.check(net, q, all_words(net, q))
        for net in all_nets(3):
            self.check(net, 2, all_words(net, 2))

    def test_many(self):
        numbers = Numbers(182)
        for net, q in nets_and_letters(183, 40):
            words = all_words(net, q)
            self.check(net, q, [words[numbers.below(len(words))] for _ in range(12)])

    def test_errors_in_order(self):
        for net, q in [(Net(2, ((0, 1),)), 2), (Net(4, ()), 3), (Net(2, ()), 5)]:
            right = (0,) * net.size
            for value in no_letters(net):
                for one in (right, None, (0, 9)):
                    expect_number(self, value, excluding_place, net, value, one, None)
            for word in no_words(net, q):
                for pair in ((word, right), (word, None), (word, word), (right, word)):
                    error = expect(self, InvalidWord, {"value": word}, excluding_place, net, q, *pair)
                    self.assertIs(error.value, word)

    def check(self, net, q, words):
        for one in words:
            for other in words:
                place = excluding_place(net, q, one, other)
                self.assertEqual(place, (places_by_trial(net, one, other) + [None])[0])
                self.assertIn(type(place), (int, type(None)))


class FirstClash(unittest.TestCase):
    def test_told_ones(self):
        ring = Net(2, ((0, 1), (1, 0)))
        self.assertIsNone(first_clash(ring, 2, ((0, 0), (1, 1))))
        self.assertIsNone(first_clash(words=(), q=2, net=ring))
        self.assertEqual(first_clash(ring, 2, ((0, 0), (0, 1), (1, 1))), ((0, 0), (0, 1), 1))
        self.assertEqual(first_clash(ring, 2, ((0, 0), (1, 0))), ((0, 0), (1, 0), 0))
        self.assertEqual(first_clash(ring, 2, ((0, 1), (1, 0), (1, 1))), ((0, 1), (1, 1), 0))

    def test_against_all_pairs(self):
        numbers = Numbers(184)
        found = set()
        for net, q in nets_and_letters(185, 100):
            for share in (2, 4, 12):
                words = some_words(net, q, numbers, share)
                clash = first_clash(net, q, words)
                self.assertEqual(clash, clash_by_trial(net, words))
                self.assertTrue(only_tuples(clash))
                found.add(clash is None)
        self.assertEqual(found, {True, False})

    def test_stores(self):
        numbers = Numbers(186)
        for net, q in nets_and_letters(187, 60):
            store = some_store(net, q, numbers)
            self.assertIsNone(first_clash(net, q, store))
            for word in all_words(net, q):
                if word not in store:
                    self.assertIsNotNone(first_clash(net, q, tuple(sorted(store + (word,)))))

    def test_errors_in_order(self):
        check_words_errors(self, first_clash, ())


class ShiftedWords(unittest.TestCase):
    def test_told_ones(self):
        net = Net(2, ((0, 1),))
        self.assertEqual(shifted_words(net, 3, ((0, 0), (1, 2)), (2, 1)), ((0, 0), (2, 1)))
        self.assertEqual(shifted_words(by=(1, 1), words=((0, 0), (0, 1), (1, 1)), q=2, net=net), ((0, 0), (1, 0), (1, 1)))
        self.assertEqual(shifted_words(net, 2, (), (1, 1)), ())

    def test_letter_by_letter(self):
        numbers = Numbers(188)
        for net, q in nets_and_letters(189, 60):
            words = some_words(net, q, numbers)
            for by in all_words(net, q)[::3]:
                shifted = shifted_words(net, q, words, by)
                self.assertEqual(shifted, tuple(sorted(
                    tuple((word[k] + by[k]) % q for k in range(net.size)) for word in words
                )))
                self.assertTrue(only_tuples(shifted))

    def test_shifts_of_stores(self):
        numbers = Numbers(190)
        for net, q in nets_and_letters(191, 40):
            store = some_store(net, q, numbers)
            counts = {word: 0 for word in all_words(net, q)}
            for by in all_words(net, q):
                shifted = shifted_words(net, q, store, by)
                self.assertIsNone(first_clash(net, q, shifted))
                for word in shifted:
                    counts[word] += 1
            self.assertEqual(set(counts.values()), {len(store)})

    def test_errors_in_order(self):
        for by in ((0, 0), (0, 9), None):
            check_words_errors(self, shifted_words, (by,), Net(2, ((0, 1),)), 3)
        for net, q in [(Net(2, ((0, 1),)), 2), (Net(4, ()), 3), (Net(1, ()), 5)]:
            for words in ((), ((0,) * net.size,), tuple(all_words(net, q))):
                for by in no_words(net, q):
                    error = expect(self, InvalidWord, {"value": by}, shifted_words, net, q, words, by)
                    self.assertIs(error.value, by)


if __name__ == "__main__":
    unittest.main()
