"""Point [23]: places that lose what they hold and make it again."""

import unittest

from keptandsaid.errors import InvalidLot, InvalidWord, InvalidWords, Undefined
from keptandsaid.greatest import greatest_store
from keptandsaid.nets import Net
from keptandsaid.places import Places, alike_outside, comes_back
from keptandsaid.rings import can_order

from helper import Numbers, all_nets, all_words, check_words_errors, expect, expect_number, lots_of, nets_and_letters
from helper import no_letters, no_lots, no_words, only_tuples, places_by_trial, some_nets, some_store, some_words
from helper import two_way_ring, whole_net

RING = Net(2, ((0, 1), (1, 0)))
STORE = ((0, 0), (1, 1))


class Led:
    """Places that are led beside a plain record of what they must hold."""

    def __init__(self, case, net, q, words):
        self.case = case
        self.net = net
        self.q = q
        self.words = words
        self.places = Places(net, q, words)
        self.word = words[0]
        self.held = list(words[0])
        self.check()

    def check(self):
        self.case.assertEqual(self.places.letters, tuple(self.held))
        self.case.assertTrue(only_tuples(self.places.letters))
        for place, letter in enumerate(self.held):
            self.case.assertIn(letter, (None, self.word[place]))

    def put(self, word):
        self.case.assertIsNone(self.places.put(word))
        self.word = word
        self.held = list(word)
        self.check()

    def lose(self, lot):
        self.case.assertIsNone(self.places.lose(lot))
        for place in lot:
            self.held[place] = None
        self.check()

    def remake(self):
        begun = tuple(self.held)
        ready = []
        for place in range(self.net.size):
            if begun[place] is None and all(begun[known] is not None for known in self.net.knows[place]):
                fit = {
                    word[place] for word in self.words
                    if all(word[known] == begun[known] for known in self.net.knows[place])
                }
                self.case.assertEqual(fit, {self.word[place]})
                self.held[place] = fit.pop()
                ready.append(place)
        told = self.places.remake()
        self.case.assertEqual(told, tuple(ready))
        self.case.assertTrue(only_tuples(told))
        self.check()
        return told


class Rounds(unittest.TestCase):
    def test_told_ones(self):
        places = Places(RING, 2, STORE)
        self.assertEqual(places.letters, (0, 0))
        self.assertIsNone(places.put((1, 1)))
        self.assertIsNone(places.lose((0,)))
        self.assertEqual(places.letters, (None, 1))
        self.assertEqual((places.remake(), places.letters), ((0,), (1, 1)))
        self.assertEqual((places.remake(), places.letters), ((), (1, 1)))
        places.lose(lot=(0, 1))
        self.assertEqual((places.remake(), places.letters), ((), (None, None)))
        places.put(word=(0, 0))
        self.assertEqual(places.letters, (0, 0))
        self.assertEqual(Places(words=STORE[1:], q=2, net=RING).letters, (1, 1))

    def test_several_at_once(self):
        net = Net(4, ((0, 1), (1, 0), (2, 3), (3, 2)))
        led = Led(self, net, 3, tuple((a, a, b, 2 * b % 3) for a in range(3) for b in range(3)))
        led.put((2, 2, 1, 2))
        led.lose((0, 3))
        self.assertEqual(led.remake(), (0, 3))
        led.lose((0, 2))
        led.lose((1,))
        self.assertEqual(led.remake(), (2,))
        self.assertEqual(led.remake(), ())
        self.assertEqual(led.places.letters, (None, None, 1, 2))

    def test_one_has_to_wait_for_another(self):
        net = Net(4, ((0, 1), (1, 2), (2, 3), (3, 0)))
        led = Led(self, net, 2, ((0, 0, 0, 0), (1, 1, 1, 1)))
        led.put((1, 1, 1, 1))
        led.lose((0, 1, 2))
        self.assertEqual([led.remake() for _ in range(4)], [(2,), (1,), (0,), ()])
        # Place 0 stands ahead of place 1, but what it makes again counts from the next round on.
        led.lose((0, 1, 3))
        self.assertEqual([led.remake() for _ in range(4)], [(1,), (0,), (3,), ()])
        turned = Led(self, net.turned(), 2, ((0, 0, 0, 0), (1, 1, 1, 1)))
        turned.lose((1, 2, 3))
        self.assertEqual([turned.remake() for _ in range(4)], [(1,), (2,), (3,), ()])

    def test_places_that_know_nothing(self):
        led = Led(self, Net(3, ((2, 0),)), 2, ((1, 0, 1),))
        led.lose((0, 1, 2))
        self.assertEqual([led.remake() for _ in range(3)], [(0, 1), (2,), ()])

    def test_step_by_step(self):
        numbers = Numbers(351)
        sizes = set()
        for net, q in nets_and_letters(352, 60):
            words = some_store(net, q, numbers)
            if q ** net.size <= 32 and numbers.below(2):
                words = greatest_store(net, q)
            led = Led(self, net, q, words[numbers.below(len(words)):])
            for _ in range(25):
                deed = numbers.below(5)
                if deed == 0:
                    led.put(led.words[numbers.below(len(led.words))])
                elif deed < 3:
                    led.lose(tuple(place for place in range(net.size) if numbers.below(3) == 0))
                else:
                    sizes.add(len(led.remake()))
        self.assertTrue({0, 1, 2, 3} <= sizes, sizes)

    def test_two_of_one_store(self):
        one, other = Places(RING, 2, STORE), Places(RING, 2, STORE)
        one.put((1, 1))
        one.lose((1,))
        self.assertEqual((one.letters, other.letters), ((1, None), (0, 0)))
        other.lose((0,))
        self.assertEqual((other.remake(), one.letters, other.letters), ((0,), (1, None), (0, 0)))


class Errors(unittest.TestCase):
    def test_of_places(self):
        for net in (RING, Net(4, ()), Net(6, ()), Net(12, ())):
            for q in no_letters(net):
                for words in ((), None, ((0,) * net.size,), tuple([(k,) * net.size for k in range(3)])):
                    expect_number(self, q, Places, net, q, words)
        check_words_errors(self, Places, ())
        check_words_errors(self, Places, (), RING, 3)
        for net, q in ((RING, 2), (Net(1, ()), 5), (Net(4, ()), 3)):
            expect(self, InvalidWords, {"value": ()}, Places, net, q, ())
            expect(self, Undefined, {"what": "store"}, Places, net, q, tuple(all_words(net, q)))
        expect(self, Undefined, {"what": "store"}, Places, RING, 2, ((0, 0), (0, 1)))
        expect(self, Undefined, {"what": "store"}, Places, RING, 2, ((0, 0), (1, 0), (1, 1)))

    def test_of_put(self):
        four = two_way_ring(4)
        for net, q, words in ((RING, 2, STORE), (Net(1, ()), 5, ((3,),)), (four, 3, ((0, 1, 2, 0), (1, 2, 0, 1)))):
            places = Places(net, q, words)
            others = [word for word in all_words(net, q) if word not in words]
            for lot in ((), (0,), tuple(range(net.size))):
                places.lose(lot)
                held = places.letters
                for word in no_words(net, q) + others + [words, places]:
                    error = expect(self, InvalidWord, {"value": word}, places.put, word)
                    self.assertIs(error.value, word)
                    self.assertEqual(places.letters, held)

    def test_a_bool_is_no_letter(self):
        places = Places(RING, 2, STORE)
        for word in ((True, True), (1, True), (False, False), (False, 0), [1, 1]):
            expect(self, InvalidWord, {"value": word}, places.put, word)
        self.assertEqual(places.letters, (0, 0))

    def test_of_lose(self):
        for net, q, words in ((RING, 2, STORE), (Net(1, ()), 5, ((3,),)), (whole_net(6), 2, ((0,) * 6,))):
            places = Places(net, q, words)
            for lost in ((), (0,)):
                places.lose(lost)
                held = places.letters
                for lot in no_lots(net.size):
                    error = expect(self, InvalidLot, {"value": lot}, places.lose, lot)
                    self.assertIs(error.value, lot)
                    self.assertEqual(places.letters, held)

    def test_of_comes_back(self):
        for net in (RING, Net(1, ()), whole_net(12), two_way_ring(5)):
            for lot in no_lots(net.size):
                error = expect(self, InvalidLot, {"value": lot}, comes_back, net, lot)
                self.assertIs(error.value, lot)

    def test_of_alike_outside(self):
        for lot in ((), (0, 1), None, (1, 0)):
            check_words_errors(self, alike_outside, (lot,))
            check_words_errors(self, alike_outside, (lot,), RING, 3)
        for net, q in ((RING, 2), (Net(1, ()), 5), (Net(4, ()), 3)):
            for words in ((), ((0,) * net.size,), tuple(all_words(net, q))):
                for lot in no_lots(net.size):
                    error = expect(self, InvalidLot, {"value": lot}, alike_outside, net, q, words, lot)
                    self.assertIs(error.value, lot)


class ComesBack(unittest.TestCase):
    def test_told_ones(self):
        ring = Net(3, ((0, 1), (1, 2), (2, 0)))
        self.assertIs(comes_back(ring, (0, 1)), True)
        self.assertIs(comes_back(ring, (0, 1, 2)), False)
        self.assertIs(comes_back(lot=(), net=ring), True)
        self.assertIs(comes_back(Net(12, ()), tuple(range(12))), True)
        self.assertIs(comes_back(whole_net(12), (3,)), True)
        self.assertIs(comes_back(whole_net(12), (3, 4)), False)
        chain = Net(12, [(i, i + 1) for i in range(11)])
        self.assertIs(comes_back(chain, tuple(range(12))), True)
        self.assertIs(comes_back(chain.turned(), tuple(range(12))), True)

    def test_against_remake_for_all_lots_of_small_nets(self):
        found = {True: 0, False: 0}
        for net in list(all_nets(1)) + list(all_nets(2)) + list(all_nets(3)) + list(some_nets(353, 40, 6)):
            for lot in lots_of(net.size):
                places = Places(net, 2, ((0,) * net.size,))
                places.lose(lot)
                for _ in lot:
                    places.remake()
                back = None not in places.letters
                self.assertIs(comes_back(net, lot), back)
                self.assertEqual(places.remake(), ())
                found[back] += 1
        self.assertTrue(found[True] > 200 and found[False] > 200, found)

    def test_exactly_if_it_can_be_ordered(self):
        numbers = Numbers(354)
        for net in some_nets(355, 150, 12):
            for _ in range(10):
                lot = tuple(place for place in range(net.size) if numbers.below(3))
                self.assertIs(comes_back(net, lot), can_order(net, lot))

    def test_what_comes_back_is_not_alike_outside(self):
        numbers = Numbers(356)
        for net, q in nets_and_letters(357, 25):
            stores = [some_store(net, q, numbers)] + ([greatest_store(net, q)] if q ** net.size <= 32 else [])
            for lot in lots_of(net.size):
                if comes_back(net, lot):
                    for store in stores:
                        self.assertIs(alike_outside(net, q, store, lot), False)


class AlikeOutside(unittest.TestCase):
    def test_told_ones(self):
        self.assertIs(alike_outside(RING, 2, STORE, (0,)), False)
        self.assertIs(alike_outside(RING, 2, STORE, (0, 1)), True)
        self.assertIs(alike_outside(lot=(1,), words=((0, 0), (0, 1)), q=2, net=RING), True)
        self.assertIs(alike_outside(RING, 2, ((0, 0), (0, 1)), (0,)), False)
        self.assertIs(alike_outside(RING, 2, ((0, 0), (0, 1), (1, 1)), ()), False)

    def test_of_no_word_and_of_one(self):
        for net, q in nets_and_letters(358, 12):
            for lot in lots_of(net.size):
                self.assertIs(alike_outside(net, q, (), lot), False)
                self.assertIs(alike_outside(net, q, (all_words(net, q)[-1],), lot), False)
                self.assertIs(alike_outside(net, q, tuple(all_words(net, q)), lot), len(lot) > 0)

    def test_against_all_pairs(self):
        numbers = Numbers(359)
        found = {(alike, store): 0 for alike in (True, False) for store in (True, False)}
        for net, q in nets_and_letters(360, 25):
            for words in (some_words(net, q, numbers, 3), some_words(net, q, numbers, 9), some_store(net, q, numbers)):
                store = not any(places_by_trial(net, one, other) for one in words for other in words)
                for lot in lots_of(net.size):
                    others = [place for place in range(net.size) if place not in lot]
                    alike = any(
                        all(one[place] == other[place] for place in others)
                        for k, one in enumerate(words) for other in words[:k]
                    )
                    self.assertIs(alike_outside(net, q, words, lot), alike)
                    found[alike, store] += 1
        self.assertTrue(min(found.values()) > 50, found)


if __name__ == "__main__":
    unittest.main()
