"""Point [22]: telling over a line that loses."""

import unittest

from keptandsaid.audiences import Audience
from keptandsaid.errors import InvalidLosses, InvalidWord, TooMany
from keptandsaid.least import said_least
from keptandsaid.matrices import is_matrix, rank_of
from keptandsaid.nets import Net
from keptandsaid.talks import Talk
from keptandsaid.tellings import first_unserved

from helper import FEW, FIELDS, Numbers, any_values, expect, expect_number, is_int, only_tuples, product_of, served
from helper import some_audiences, two_way_ring, values, whole_net

RING = Net(2, ((0, 1), (1, 0))).audience(2)

SMALL = {2: 4, 3: 3, 5: 2, 7: 2, 11: 2, 13: 2}


class Led:
    """A talk that is led beside a plain record of what each listener must have heard."""

    def __init__(self, case, audience, word):
        self.case = case
        self.audience = audience
        self.word = word
        self.talk = Talk(audience, word)
        self.heard = [() for _ in audience.listeners]
        self.said = []
        self.spoken = 0
        self.ended = 0
        self.check()

    def now(self):
        """The audience in which each knows what it has heard, too."""
        return Audience(self.audience.p, self.audience.size, [
            (knows + tuple(row for row, value in heard), wants)
            for (knows, wants), heard in zip(self.audience.listeners, self.heard)
        ])

    def check(self):
        case, talk, audience = self.case, self.talk, self.audience
        now = self.now()
        rows = talk.say()
        case.assertTrue(only_tuples(rows) and is_matrix(rows, audience.p, audience.size))
        case.assertEqual(len(rows), said_least(now))
        case.assertIsNone(first_unserved(now, rows))
        case.assertEqual(talk.say(), rows)
        case.assertEqual(talk.lacking(), len(rows))
        case.assertEqual((talk.spoken, talk.ended), (self.spoken, self.ended))
        case.assertTrue(all(is_int(number) for number in (talk.lacking(), talk.spoken, talk.ended)))
        for listener, (knows, wants) in enumerate(audience.listeners):
            case.assertEqual(talk.heard(listener), self.heard[listener])
            case.assertTrue(only_tuples(talk.heard(listener)))
            expected = values(audience.p, wants, self.word) if served(now, (), listener) else None
            case.assertEqual(talk.got(listener), expected)
            case.assertTrue(only_tuples(talk.got(listener)))

    def hear(self, losses):
        rows = self.talk.say()
        before = len(rows)
        told = self.talk.hear(losses)
        for listener, lost in enumerate(losses):
            self.heard[listener] += tuple(
                (row, product_of(self.audience.p, row, self.word)) for k, row in enumerate(rows) if k not in lost
            )
        self.said.extend(rows)
        self.spoken += len(rows)
        self.ended += 1 if rows else 0
        now = self.now()
        self.case.assertEqual(told, tuple(k for k in range(len(self.heard)) if served(now, (), k)))
        self.case.assertTrue(only_tuples(told))
        self.check()
        lost = {place for listener in losses for place in listener}
        after = self.talk.lacking()
        self.case.assertLessEqual(after, before)
        self.case.assertLessEqual(after, len(lost))
        ahead = said_least(self.audience) - rank_of(self.audience.p, tuple(self.said))
        self.case.assertGreaterEqual(after, ahead)


def some_word(audience, numbers):
    return numbers.matrix(audience.p, 1, audience.size)[0]


def some_losses(led, numbers, share):
    """For each listener some of the places of this round's rows, each with a chance of share to four."""
    return tuple(
        tuple(place for place in range(led.talk.lacking()) if numbers.below(4) < share) for _ in led.audience.listeners
    )


def no_losses(listeners, rows):
    """Values that are no losses of a round for so many listeners and rows."""
    right = ((),) * listeners
    wrong = [right + ((),), list(right), None, 0, "", True, (None,) * listeners + (None,), dict()]
    if listeners > 0:
        behind = right[1:]
        wrong += [behind, ()]
        wrong += [behind + (lost,) for lost in [
            [], None, 0, "", (rows,), (-1,), (0, rows), (True,), (False,), (None,), ("0",), ((0,),), (10 ** 30,), "0", (0, 0),
            ((),), {0: 1}, (0.0,), (-1, 0), False,
        ]]
        if rows > 0:
            wrong += [behind + (lost,) for lost in [[0], (0, 0), (0, False), {0: True}]]
        if rows > 1:
            wrong += [behind + (lost,) for lost in [(1, 0), (1, 1), (0, True), (0, 1, 1), [0, 1]]]
    return wrong + [value for value in any_values() if not isinstance(value, tuple)]


def state(talk, listeners):
    return (
        talk.say(), talk.lacking(), talk.spoken, talk.ended,
        [talk.heard(k) for k in range(listeners)], [talk.got(k) for k in range(listeners)],
    )


class Rounds(unittest.TestCase):
    def test_told_ones(self):
        talk = Talk(RING, (1, 0))
        self.assertEqual((talk.say(), talk.lacking(), talk.spoken, talk.ended), (((1, 1),), 1, 0, 0))
        self.assertEqual((talk.heard(0), talk.got(0)), ((), None))
        self.assertEqual(talk.hear(((0,), ())), (1,))
        self.assertEqual((talk.heard(0), talk.heard(1)), ((), (((1, 1), 1),)))
        self.assertEqual((talk.got(0), talk.got(1)), (None, (0,)))
        self.assertEqual((talk.lacking(), talk.spoken, talk.ended), (1, 1, 1))
        self.assertEqual(talk.hear(losses=((), (0,))), (0, 1))
        self.assertEqual((talk.got(listener=0), talk.heard(listener=0)), ((1,), talk.heard(0)))
        self.assertEqual((talk.say(), talk.lacking(), talk.spoken, talk.ended), ((), 0, 2, 2))
        self.assertEqual(Talk(word=(0, 0), audience=RING).lacking(), 1)

    def test_without_losses(self):
        numbers = Numbers(331)
        said = set()
        for audience in some_audiences(332, 80, SMALL):
            led = Led(self, audience, some_word(audience, numbers))
            led.hear(((),) * len(audience.listeners))
            self.assertEqual(led.talk.lacking(), 0)
            self.assertEqual(led.talk.hear(((),) * len(audience.listeners)), tuple(range(len(audience.listeners))))
            self.assertNotIn(None, [led.talk.got(k) for k in range(len(audience.listeners))])
            said.add(led.talk.spoken)
        self.assertTrue({0, 1, 2} <= said, said)

    def test_some_lost(self):
        numbers = Numbers(333)
        for audience in some_audiences(334, 60, SMALL):
            led = Led(self, audience, some_word(audience, numbers))
            for share in (3, 2, 1, 2, 0):
                led.hear(some_losses(led, numbers, share))
            self.assertEqual(led.talk.lacking(), 0)

    def test_each_row_lost_by_some(self):
        numbers = Numbers(335)
        rounds = set()
        for audience in some_audiences(336, 60, SMALL):
            many = len(audience.listeners)
            if many > 0:
                led = Led(self, audience, some_word(audience, numbers))
                while led.talk.lacking() > 0 and led.ended < 8:
                    shift = numbers.below(many)
                    led.hear(tuple(
                        tuple(place for place in range(led.talk.lacking()) if (place + shift) % many == listener)
                        for listener in range(many)
                    ))
                rounds.add(led.ended)
        self.assertTrue({0, 1, 2} <= rounds, rounds)

    def test_all_lost_by_all(self):
        for audience in (RING, two_way_ring(5).audience(2), Net(3, ()).audience(3), Net(3, ()).audience(13)):
            led = Led(self, audience, (1,) * audience.size)
            rows = led.talk.say()
            for number in range(40):
                told = led.talk.hear((tuple(range(len(rows))),) * audience.size)
                self.assertEqual((told, led.talk.say(), led.talk.ended), ((), rows, number + 1))
                self.assertEqual(led.talk.spoken, (number + 1) * len(rows))
                self.assertEqual([led.talk.heard(k) for k in range(audience.size)], [()] * audience.size)
                self.assertEqual([led.talk.got(k) for k in range(audience.size)], [None] * audience.size)

    def test_one_listener_loses_all(self):
        led = Led(self, two_way_ring(4).audience(3), (1, 2, 0, 1))
        for _ in range(5):
            led.hear((tuple(range(led.talk.lacking())), (), (), ()))
        self.assertIsNone(led.talk.got(0))
        self.assertEqual([led.talk.got(k) for k in (1, 2, 3)], [(2,), (0,), (1,)])
        self.assertEqual(led.talk.lacking(), 1)

    def test_if_one_row_is_lost_by_nobody(self):
        numbers = Numbers(337)
        rounds = set()
        for audience in list(some_audiences(338, 60, SMALL)) + [Net(k, ()).audience(2) for k in range(1, 7)]:
            said = said_least(audience)
            led = Led(self, audience, some_word(audience, numbers))
            while led.talk.lacking() > 0:
                self.assertLess(led.ended, said)
                kept = numbers.below(led.talk.lacking())
                led.hear(tuple(
                    tuple(place for place in range(led.talk.lacking()) if place != kept) for _ in audience.listeners
                ))
            self.assertLessEqual(led.talk.ended, said)
            self.assertLessEqual(led.talk.spoken, said * (said + 1) // 2)
            rounds.add(led.talk.ended)
        self.assertTrue({0, 1, 2, 3, 4, 5, 6} <= rounds, rounds)

    def test_all_fields_and_great_audiences(self):
        numbers = Numbers(339)
        for p in FIELDS:
            size = FEW[p]
            for known in (0, 1, size - 1, 20):
                audience = Audience(p, size, [
                    (numbers.matrix(p, known, size) if known < 20 else ((1,) + (0,) * (size - 1),) * 20,
                     numbers.matrix(p, 20, size))
                    for _ in range(12)
                ])
                word = some_word(audience, numbers)
                talk = Talk(audience, word)
                for number in range(39):
                    lost = tuple(place for place in range(talk.lacking()) if place != number)
                    before = talk.lacking()
                    talk.hear((lost,) * 6 + ((),) * 6)
                    self.assertLessEqual(talk.lacking(), before)
                talk.hear(((),) * 12)
                for listener, (knows, wants) in enumerate(audience.listeners):
                    self.assertEqual(talk.got(listener), values(p, wants, word))

    def test_heard_in_the_order_heard_each_time(self):
        audience = Audience(2, 3, (((), ((1, 0, 0), (0, 1, 0), (0, 0, 1))), ((), ((1, 0, 0), (0, 1, 0), (0, 0, 1)))))
        talk = Talk(audience, (1, 0, 1))
        rows = talk.say()
        self.assertEqual(talk.hear(((), (0, 1, 2))), (0,))
        again = talk.say()
        self.assertEqual(len(again), 3)
        self.assertEqual(talk.hear(((1,), (0,))), (0,))
        told = [(row, product_of(2, row, (1, 0, 1))) for row in rows + (again[0], again[2])]
        self.assertEqual(talk.heard(0), tuple(told))
        self.assertEqual([row for row, value in talk.heard(1)], [again[1], again[2]])


class AskedOrNot(unittest.TestCase):
    def test_say_asked_never_once_and_again(self):
        numbers = Numbers(341)
        for audience in some_audiences(342, 40, FEW):
            word = some_word(audience, numbers)
            talks = [Talk(audience, word) for _ in range(3)]
            for _ in range(3):
                lacking = talks[2].lacking()
                losses = tuple(
                    tuple(place for place in range(lacking) if numbers.below(2)) for _ in audience.listeners
                )
                talks[0].say()
                self.assertEqual(talks[0].say(), talks[0].say())
                talks[1].say()
                told = [talk.hear(losses) for talk in talks]
                self.assertEqual(told[0], told[1])
                self.assertEqual(told[0], told[2])
            many = len(audience.listeners)
            self.assertEqual(state(talks[0], many), state(talks[1], many))
            self.assertEqual(state(talks[0], many), state(talks[2], many))

    def test_two_talks_of_one_audience(self):
        audience = two_way_ring(4).audience(3)
        one, other = Talk(audience, (1, 2, 0, 1)), Talk(audience, (2, 2, 2, 2))
        begun = state(other, 4)
        one.hear(((),) * 4)
        self.assertEqual(state(other, 4), begun)
        lost = tuple(range(other.lacking()))
        self.assertEqual(other.hear((lost, lost, lost, ())), (3,))
        self.assertEqual([one.got(k) for k in range(4)], [(1,), (2,), (0,), (1,)])
        self.assertEqual([other.got(k) for k in range(4)], [None, None, None, (2,)])
        self.assertEqual((one.ended, other.ended), (1, 1))


class NothingToSay(unittest.TestCase):
    def test_audiences_without_listeners(self):
        for p in FIELDS:
            talk = Talk(Audience(p, FEW[p], ()), (p - 1,) * FEW[p])
            for _ in range(3):
                self.assertEqual((talk.say(), talk.lacking(), talk.spoken, talk.ended), ((), 0, 0, 0))
                self.assertEqual(talk.hear(()), ())
            for losses in no_losses(0, 0):
                expect(self, InvalidLosses, {"value": losses}, talk.hear, losses)
            expect_number(self, 0, talk.heard, 0)
            expect_number(self, 0, talk.got, 0)

    def test_listeners_that_want_nothing_or_know_all(self):
        rows = ((1, 0), (0, 1))
        noughts = ((0, 0),)
        for p in FIELDS:
            audience = Audience(p, 2, (((), ()), (rows, rows), (rows[:1], rows[:1]), ((), noughts), (((1, 1),), noughts)))
            talk = Talk(audience, (1, p - 1))
            for _ in range(3):
                self.assertEqual(state(talk, 5), (
                    (), 0, 0, 0, [()] * 5, [(), (1, p - 1), (1,), (0,), (0,)]
                ))
                self.assertEqual(talk.hear(((),) * 5), (0, 1, 2, 3, 4))
                for losses in no_losses(5, 0):
                    expect(self, InvalidLosses, {"value": losses}, talk.hear, losses)

    def test_a_round_without_rows_changes_nothing(self):
        talk = Talk(RING, (1, 1))
        talk.hear(((), ()))
        ended = state(talk, 2)
        self.assertEqual(ended[:4], ((), 0, 1, 1))
        for _ in range(3):
            self.assertEqual(talk.hear(((), ())), (0, 1))
            self.assertEqual(state(talk, 2), ended)


class Errors(unittest.TestCase):
    def test_too_many_spaces_ahead_of_no_word(self):
        for p, size in FEW.items():
            for more in range(size + 1, 13):
                for word in ((0,) * more, None, (0,) * size, (p,) * more):
                    expect(self, TooMany, {"what": "spaces"}, Talk, Audience(p, more, ()), word)
            self.assertEqual(Talk(Audience(p, size, ()), (0,) * size).say(), ())
        expect(self, TooMany, {"what": "spaces"}, Talk, whole_net(7).audience(2), (0,) * 7)

    def test_no_word(self):
        for p in FIELDS:
            audience = Net(2, ((0, 1), (1, 0))).audience(p)
            wrong = [
                (p, 0), (0, p), (-1, 0), (True, 0), (0, False), (0,), (0, 0, 0), [0, 0], ("0", "0"), ((0, 0),), (None, 0),
                (0, (0,)), "00", {0: 0, 1: 0}, (0, 10 ** 30), (0.0, 0),
            ]
            for word in wrong + any_values():
                if not (isinstance(word, tuple) and word == (1, 0) and is_int(word[0]) and is_int(word[1])):
                    error = expect(self, InvalidWord, {"value": word}, Talk, audience, word)
                    self.assertIs(error.value, word)

    def test_no_losses(self):
        cases = [(RING, (1, 0)), (Net(4, ()).audience(3), (1, 2, 0, 1)), (Audience(5, 1, (((), ((1,),)),)), (4,))]
        for audience, word in cases:
            talk = Talk(audience, word)
            many = len(audience.listeners)
            for _ in range(2):
                before = state(talk, many)
                for losses in no_losses(many, talk.lacking()):
                    error = expect(self, InvalidLosses, {"value": losses}, talk.hear, losses)
                    self.assertIs(error.value, losses)
                    self.assertEqual(state(talk, many), before)
                talk.hear(((0,),) + ((),) * (many - 1))

    def test_rows_of_an_earlier_round_are_none_of_this(self):
        talk = Talk(Net(3, ()).audience(2), (1, 1, 1))
        self.assertEqual(talk.lacking(), 3)
        talk.hear(((2,), (2,), (2,)))
        self.assertEqual(talk.lacking(), 1)
        for place in (1, 2):
            expect(self, InvalidLosses, {"value": ((place,), (), ())}, talk.hear, ((place,), (), ()))
        self.assertEqual(talk.hear(((0,), (0,), (0,))), talk.hear(((0,), (0,), (0,))))

    def test_no_listener(self):
        talk = Talk(RING, (1, 0))
        for round_ in range(2):
            for listener in any_values() + [2, -1]:
                if not (is_int(listener) and 0 <= listener < 2):
                    expect_number(self, listener, talk.heard, listener)
                    expect_number(self, listener, talk.got, listener)
            self.assertEqual(talk.ended, round_)
            talk.hear(((), ()))


if __name__ == "__main__":
    unittest.main()
