"""Point [19]: broadcasts of any kind."""

import unittest

from keptandsaid.broadcasts import decoded_letter, first_wrong, signals_of
from keptandsaid.errors import InvalidMatrix, InvalidSignals, Undefined
from keptandsaid.matrices import rank_of, zero_rows
from keptandsaid.nets import Net
from keptandsaid.tellings import first_unserved
from keptandsaid.words import every_word, shifted_words

from helper import MOST, Numbers, all_words, any_values, expect, expect_number, is_int, nets_and_letters, no_letters
from helper import no_matrices, only_tuples, places_by_trial, product_of, right_signals, some_nets, spanned

RING = Net(2, ((0, 1), (1, 0)))


def wrong_by_trial(net, q, signals):
    words = all_words(net, q)
    for k, one in enumerate(words):
        for j in range(k + 1, len(words)):
            places = places_by_trial(net, one, words[j])
            if signals[k] == signals[j] and places:
                return (one, words[j], places[0])
    return None


def no_signals(net, q):
    """Values that are no tuple of a number for each word."""
    many = q ** net.size
    right = (0,) * many
    wrong = [
        right + (0,), right[1:], list(right), right[1:] + (-1,), (True,) + right[1:], right[1:] + (False,),
        right[1:] + (None,), right[1:] + ("0",), right[1:] + ((0,),), "0" * many, (right,), right[1:] + (-(10 ** 30),),
    ]
    return wrong + [value for value in any_values() if many > 2 or not isinstance(value, tuple)]


class FirstWrong(unittest.TestCase):
    def test_told_ones(self):
        self.assertIsNone(first_wrong(RING, 2, (0, 1, 1, 0)))
        self.assertIsNone(first_wrong(signals=(7, 10 ** 30, 10 ** 30, 7), q=2, net=RING))
        self.assertEqual(first_wrong(RING, 2, (0, 1, 0, 0)), ((0, 0), (1, 0), 0))
        self.assertEqual(first_wrong(RING, 2, (0, 1, 2, 1)), ((0, 1), (1, 1), 0))
        self.assertEqual(first_wrong(RING, 2, (0, 0, 0, 0)), ((0, 0), (0, 1), 1))
        self.assertIsNone(first_wrong(Net(2, ()), 2, (3, 2, 1, 0)))

    def test_against_all_pairs(self):
        numbers = Numbers(192)
        found = set()
        for net, q in nets_and_letters(193, 60):
            right = right_signals(net, q, numbers)
            self.assertIsNone(first_wrong(net, q, right))
            for kinds in (2, 4, q ** net.size):
                self.check(net, q, tuple(numbers.below(kinds) for _ in right), found)
            at = numbers.below(len(right))
            self.check(net, q, right[:at] + (right[numbers.below(len(right))],) + right[at + 1:], found)
            self.check(net, q, tuple(range(len(right))), found)
        self.assertEqual(found, {True, False})

    def test_no_letters_ahead_of_no_signals(self):
        for net in (RING, Net(6, ()), Net(12, ())):
            for q in no_letters(net):
                for signals in ((0, 1, 1, 0), None, ()):
                    expect_number(self, q, first_wrong, net, q, signals)

    def test_no_signals(self):
        for net, q in ((RING, 2), (Net(4, ()), 3), (Net(1, ()), 5), (Net(2, ()), 4), (Net(1, ()), 2)):
            for signals in no_signals(net, q):
                error = expect(self, InvalidSignals, {"value": signals}, first_wrong, net, q, signals)
                self.assertIs(error.value, signals)

    def check(self, net, q, signals, found):
        wrong = first_wrong(net, q, signals)
        self.assertEqual(wrong, wrong_by_trial(net, q, signals))
        self.assertTrue(only_tuples(wrong))
        found.add(wrong is None)


class DecodedLetter(unittest.TestCase):
    def test_told_ones(self):
        signals = (0, 1, 1, 0)
        self.assertEqual(decoded_letter(RING, 2, signals, 0, 0, (1,)), 1)
        self.assertEqual(decoded_letter(RING, 2, signals, 1, 1, (1,)), 0)
        self.assertEqual(decoded_letter(letters=(0,), signal=1, place=0, signals=signals, q=2, net=RING), 1)
        # Place 2 knows 0 and 1, in this order.
        net = Net(3, ((2, 0), (2, 1)))
        words = every_word(net, 2)
        signals = tuple([word[0] * 2 + word[1] + 4 * word[2] for word in words])
        self.assertEqual(decoded_letter(net, 2, signals, 2, 6, (1, 0)), 1)
        expect(self, Undefined, {"what": "letter"}, decoded_letter, net, 2, signals, 2, 6, (0, 1))

    def test_against_all_words(self):
        numbers = Numbers(194)
        undefined = 0
        for net, q in nets_and_letters(195, 30):
            words = all_words(net, q)
            signals = right_signals(net, q, numbers)
            for _ in range(30):
                place = numbers.below(net.size)
                word = words[numbers.below(len(words))]
                letters = tuple(word[known] for known in net.knows[place])
                signal = signals[numbers.below(len(words))]
                fit = {
                    one[place] for one, told in zip(words, signals)
                    if told == signal and tuple(one[known] for known in net.knows[place]) == letters
                }
                arguments = (net, q, signals, place, signal, letters)
                if fit:
                    self.assertEqual({decoded_letter(*arguments)}, fit)
                    self.assertTrue(is_int(decoded_letter(*arguments)))
                else:
                    undefined += 1
                    expect(self, Undefined, {"what": "letter"}, decoded_letter, *arguments)
        self.assertGreater(undefined, 100)

    def test_each_word_is_made_again(self):
        numbers = Numbers(196)
        for net, q in nets_and_letters(197, 12):
            signals = right_signals(net, q, numbers)
            for word, signal in list(zip(all_words(net, q), signals))[::5]:
                for place in range(net.size):
                    letters = tuple(word[known] for known in net.knows[place])
                    self.assertEqual(decoded_letter(net, q, signals, place, signal, letters), word[place])

    def test_errors_in_order(self):
        wrong_place = (None, 2, -1, True)
        for q in no_letters(RING):
            for signals in ((0, 1, 1, 0), (0, 0, 0, 0), None):
                expect_number(self, q, decoded_letter, RING, q, signals, None, None, None)
        for signals in no_signals(RING, 2):
            error = expect(self, InvalidSignals, {"value": signals}, decoded_letter, RING, 2, signals, None, None, None)
            self.assertIs(error.value, signals)
        for place in wrong_place + (0, 1):
            expect(self, Undefined, {"what": "broadcast"}, decoded_letter, RING, 2, (0, 1, 0, 0), place, None, None)
            expect(self, Undefined, {"what": "broadcast"}, decoded_letter, RING, 2, (0, 1, 0, 0), place, 1, (0,))
        for place in any_values() + list(wrong_place):
            if not (is_int(place) and 0 <= place < 2):
                for signal, letters in ((0, (1,)), (None, None), (5, (0, 0))):
                    expect_number(self, place, decoded_letter, RING, 2, (0, 1, 1, 0), place, signal, letters)

    def test_no_letter(self):
        signals = (0, 1, 1, 0)
        for signal in any_values():
            if not (is_int(signal) and signal in (0, 1)):
                expect(self, Undefined, {"what": "letter"}, decoded_letter, RING, 2, signals, 0, signal, (1,))
        for letters in any_values() + [(2,), (-1,), [1], (1, 1), (True,), (False,), ((1,),), ("1",), (10 ** 30,), 1]:
            if not (isinstance(letters, tuple) and letters in ((0,), (1,)) and is_int(letters[0])):
                for place in (0, 1):
                    expect(self, Undefined, {"what": "letter"}, decoded_letter, RING, 2, signals, place, 1, letters)
        knowing = Net(3, ((0, 1), (0, 2)))
        every = tuple(range(8))
        for letters in ((1,), (1, 1, 0), (), (1, True), (True, 0), [1, 0], (0, 2), None):
            expect(self, Undefined, {"what": "letter"}, decoded_letter, knowing, 2, every, 0, 2, letters)
        self.assertEqual(decoded_letter(knowing, 2, every, 0, 2, (1, 0)), 0)
        unknowing = Net(1, ())
        self.assertEqual(decoded_letter(unknowing, 2, (1, 0), 0, 1, ()), 0)
        for letters in ((0,), [], None, 0, ""):
            expect(self, Undefined, {"what": "letter"}, decoded_letter, unknowing, 2, (1, 0), 0, 1, letters)
        for signal in (True, False, 2, -1, "1", (1,), None, [0]):
            expect(self, Undefined, {"what": "letter"}, decoded_letter, unknowing, 2, (1, 0), 0, signal, ())


class SignalsOf(unittest.TestCase):
    def test_told_ones(self):
        self.assertEqual(signals_of(RING, 2, ((1, 1),)), (0, 1, 1, 0))
        self.assertEqual(signals_of(RING, 3, ((1, 2), (0, 1))), (0, 7, 5, 3, 1, 8, 6, 4, 2))
        self.assertEqual(signals_of(telling=(), p=5, net=RING), (0,) * 25)
        self.assertEqual(signals_of(Net(1, ()), 2, ((1,),) * 6), (0, 63))
        self.assertEqual(signals_of(Net(1, ()), 5, ((0,), (1,), (0,))), (0, 5, 10, 15, 20))

    def test_digit_by_digit(self):
        numbers = Numbers(198)
        for net, p, telling in self.some(199, 60, numbers):
            signals = signals_of(net, p, telling)
            expected = []
            for word in all_words(net, p):
                values = [product_of(p, row, word) for row in telling]
                expected.append(sum(value * p ** k for k, value in enumerate(values[::-1])))
            self.assertEqual(signals, tuple(expected))
            self.assertTrue(only_tuples(signals) and all(is_int(signal) for signal in signals))

    def test_right_if_the_telling_serves_all(self):
        found = set()
        for net, p, telling in self.some(200, 120, Numbers(201)):
            served = first_unserved(net.audience(p), telling) is None
            self.assertEqual(first_wrong(net, p, signals_of(net, p, telling)) is None, served)
            found.add(served)
        self.assertEqual(found, {True, False})

    def test_unlike_signals_and_the_words_of_each(self):
        for net, p, telling in self.some(202, 40, Numbers(203)):
            signals = signals_of(net, p, telling)
            self.assertEqual(len(set(signals)), p ** rank_of(p, telling))
            store = tuple(sorted(spanned(p, zero_rows(p, telling, net.size), net.size)))
            for signal in set(signals):
                words = tuple(word for word, told in zip(all_words(net, p), signals) if told == signal)
                self.assertEqual(shifted_words(net, p, store, words[0]), words)

    def test_errors_in_order(self):
        for net in (RING, Net(4, ()), Net(6, ()), Net(12, ())):
            for p in no_letters(net) + [4]:
                for telling in ((), ((1,) * net.size,), None, ((0,) * net.size,) * 7):
                    expect_number(self, p, signals_of, net, p, telling)
        for telling in no_matrices() + [((0, 0),) * 7, ((1, 0),) * 8, ((1, 0), [0, 1]), ((1, 0),) * 40]:
            error = expect(self, InvalidMatrix, {"value": telling}, signals_of, RING, 2, telling)
            self.assertIs(error.value, telling)
        self.assertEqual(len(signals_of(RING, 2, ((0, 1),) * 6)), 4)

    def some(self, seed, rounds, numbers):
        for net in some_nets(seed, rounds, 6):
            for p in (2, 3, 5):
                if net.size <= MOST[p]:
                    yield net, p, numbers.matrix(p, min(numbers.below(net.size + 2), 6), net.size)


if __name__ == "__main__":
    unittest.main()
