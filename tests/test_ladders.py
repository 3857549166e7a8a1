"""Point [15]: ladders."""

import itertools
import unittest

from keptandsaid.audiences import Audience
from keptandsaid.errors import InvalidLot, Undefined
from keptandsaid.fields import is_field
from keptandsaid.ladders import ladder_holds, lot_ladder
from keptandsaid.least import said_least
from keptandsaid.nets import Net
from keptandsaid.rings import can_order

from helper import FIELDS, Numbers, all_nets, any_values, expect, expect_number, is_int, only_tuples, some_audiences
from helper import some_nets, spanned

# Listener 0 knows nothing, listener 1 what listener 0 wants, listener 2 what both want.
CHAIN = Audience(3, 3, (
    ((), ((1, 0, 0), (2, 0, 0))), (((2, 0, 0),), ((0, 1, 0),)), (((1, 0, 0), (1, 1, 0)), ((0, 0, 0), (0, 0, 2))),
))
LADDER = ((), ((0, 0), (1, 0), (2, 1)))


def holds_by_trial(audience, outside, steps):
    named = outside
    for listener, row in steps:
        if not 0 <= listener < len(audience.listeners) or not 0 <= row < len(audience.listeners[listener][1]):
            return False
        knows, wants = audience.listeners[listener]
        inside = spanned(audience.p, named, audience.size)
        if not all(known in inside for known in knows) or wants[row] in inside:
            return False
        named = named + (wants[row],)
    return True


def ladder_by_trial(net, lot):
    outside = tuple(tuple(int(k == place) for k in range(net.size)) for place in range(net.size) if place not in lot)
    steps = []
    taken = set()
    while len(steps) < len(lot):
        place = min(k for k in lot if k not in taken and not any(j in lot and j not in taken for j in net.knows[k]))
        taken.add(place)
        steps.append((place, 0))
    return (outside, tuple(steps))


class LadderHolds(unittest.TestCase):
    def test_told_ones(self):
        self.assertIs(ladder_holds(CHAIN, LADDER), True)
        self.assertIs(ladder_holds(ladder=LADDER, audience=CHAIN), True)
        self.assertIs(ladder_holds(CHAIN, ((), ((0, 1), (1, 0), (2, 1)))), True)
        for k in range(3):
            self.assertIs(ladder_holds(CHAIN, ((), LADDER[1][:k])), True)

    def test_no_steps(self):
        for outside in ((), ((0, 0, 0),), ((1, 0, 0), (0, 1, 0), (0, 0, 1))):
            self.assertIs(ladder_holds(CHAIN, (outside, ())), True)
            self.assertIs(ladder_holds(Audience(3, 3, ()), (outside, ())), True)

    def test_outside(self):
        self.assertIs(ladder_holds(CHAIN, (((2, 0, 0),), ((1, 0), (2, 1)))), True)
        self.assertIs(ladder_holds(CHAIN, (((1, 0, 0), (1, 2, 0)), ((2, 1),))), True)
        self.assertIs(ladder_holds(CHAIN, (((1, 2, 0),), ((0, 0), (2, 1)))), True)
        self.assertIs(ladder_holds(CHAIN, (((1, 0, 0),), ((0, 0),))), False)
        self.assertIs(ladder_holds(CHAIN, (((0, 1, 0),), ((1, 0),))), False)
        self.assertIs(ladder_holds(CHAIN, (((1, 2, 0),), ((2, 1),))), False)

    def test_a_step_wrong(self):
        first, second, third = LADDER[1]
        for steps in [
            (second, third), (first, third), (third,), (second,), (second, first, third), (first, third, second),
            (first, first, second, third), (first, second, second, third), (first, second, third, third),
            (first, second, third, first), (first, (0, 1)), (first, second, (2, 0)), (first, second, (2, 2)),
            (first, second, (3, 0)), (first, (1, 1)), (first, (-1, 0)), ((0, -1),), (first, second, (2, True)), ((False, 0),),
            ((0, 0, 0),), ((0,),), ((),), ([0, 0],), [(0, 0)], (0, 0), ((0, "0"),), ((0, None),), (None,), (first, ()),
            (first, second, third, ()), (first, second, third, (0, 0), (1, 0)),
        ]:
            self.assertIs(ladder_holds(CHAIN, ((), steps)), False, steps)

    def test_outside_is_no_matrix(self):
        for outside in [
            ((1, 0),), ((1, 0, 0, 0),), ((3, 0, 0),), ((-1, 0, 0),), [(1, 0, 0)], ([1, 0, 0],), (1, 0, 0), ((True, 0, 0),),
            ((),), None, 0, "", ((1, 0, 0), (1, 0)),
        ]:
            for steps in ((), ((0, 0),), None):
                self.assertIs(ladder_holds(CHAIN, (outside, steps)), False, outside)

    def test_values_of_every_kind(self):
        for audience in (CHAIN, Audience(2, 2, ()), Audience(13, 12, ())):
            for value in any_values() + [list(LADDER[1]), list(LADDER), LADDER + ((),), LADDER[:1]]:
                self.assertIs(ladder_holds(audience, value), False, value)
                empty = isinstance(value, tuple) and value == ()
                self.assertIs(ladder_holds(audience, ((), value)), empty, value)
                matrix = empty or (audience.size == 2 and isinstance(value, tuple) and only_tuples(value)
                                   and value == ((1, 0),))
                self.assertIs(ladder_holds(audience, (value, ())), matrix, value)
                self.assertIs(ladder_holds(audience, [(), value]), False)
                self.assertIs(ladder_holds(audience, ((), (value,))), False)
            for value in any_values():
                for step in ((value, 0), (0, value), [0, value], [value, 0]):
                    right = audience is CHAIN and isinstance(step, tuple) and all([is_int(part) for part in step])
                    self.assertIs(ladder_holds(audience, ((), (step,))), right and step in ((0, 0), (0, 1)), step)

    def test_many(self):
        numbers = Numbers(151)
        found = {True: 0, False: 0}
        longest = 0
        for audience in some_audiences(152, 600):
            for _ in range(6):
                outside = numbers.matrix(audience.p, numbers.below(audience.size + 1), audience.size)
                steps = self.some_steps(audience, outside, numbers)
                held = ladder_holds(audience, (outside, steps))
                self.assertIs(held, holds_by_trial(audience, outside, steps), (audience.listeners, outside, steps))
                found[held] += 1
                longest = max(longest, len(steps) if held else 0)
        self.assertTrue(found[True] > 400 and found[False] > 400 and longest > 2, (found, longest))

    def test_said_is_at_least_the_steps(self):
        numbers = Numbers(153)
        for audience in some_audiences(154, 200, {2: 6, 3: 4, 5: 3, 7: 2, 11: 2, 13: 2}):
            outside = numbers.matrix(audience.p, numbers.below(audience.size), audience.size)
            steps = self.right_steps(audience, outside, numbers)
            self.assertIs(ladder_holds(audience, (outside, steps)), True)
            self.assertLessEqual(len(steps), said_least(audience))

    def test_not_always_is_there_one_of_said_steps(self):
        audience = Audience(2, 2, ((((1, 0),), ((0, 1),)), (((0, 1),), ((1, 0),)), (((1, 1),), ((1, 0),))))
        self.assertEqual(said_least(audience), 2)
        for outside in ((), ((1, 0),), ((0, 1),), ((1, 1),), ((1, 0), (0, 1))):
            for steps in itertools.product([(0, 0), (1, 0), (2, 0)], repeat=2):
                self.assertIs(ladder_holds(audience, (outside, steps)), False)

    def test_of_any_size(self):
        audience = Net(12, [(i, i - 1) for i in range(1, 12)]).audience(13)
        steps = tuple([(k, 0) for k in range(12)])
        self.assertIs(ladder_holds(audience, ((), steps)), True)
        self.assertIs(ladder_holds(audience, ((), steps + steps[:1])), False)
        self.assertIs(ladder_holds(audience, ((), steps[::-1])), False)
        self.assertIs(ladder_holds(audience, (((12,) + (0,) * 11,), steps[1:])), True)

    def some_steps(self, audience, outside, numbers):
        """Steps that often hold, some of them with a change."""
        steps = list(self.right_steps(audience, outside, numbers))
        change = numbers.below(6)
        at = numbers.below(len(steps) + 1)
        if change == 0:
            steps.insert(at, (numbers.below(5), numbers.below(3)))
        elif change == 1 and at < len(steps):
            steps[at] = (numbers.below(5), numbers.below(3))
        elif change == 2 and at < len(steps):
            del steps[at]
        elif change == 3:
            steps.reverse()
        return tuple(steps)

    def right_steps(self, audience, outside, numbers):
        steps = ()
        wishes = [(k, row) for k, (knows, wants) in enumerate(audience.listeners) for row in range(len(wants))]
        for _ in range(2 * len(wishes)):
            step = wishes[numbers.below(len(wishes))]
            if holds_by_trial(audience, outside, steps + (step,)):
                steps = steps + (step,)
        return steps


class LotLadder(unittest.TestCase):
    def test_told_ones(self):
        net = Net(4, ((0, 2), (1, 0), (2, 3), (3, 2)))
        self.assertEqual(lot_ladder(net, 2, (0, 1, 2)), (((0, 0, 0, 1),), ((2, 0), (0, 0), (1, 0))))
        self.assertEqual(lot_ladder(net, 13, (1, 3)), (((1, 0, 0, 0), (0, 0, 1, 0)), ((1, 0), (3, 0))))
        self.assertEqual(lot_ladder(lot=(0, 3), p=2, net=net), (((0, 1, 0, 0), (0, 0, 1, 0)), ((0, 0), (3, 0))))

    def test_the_empty_lot_and_the_whole(self):
        for p in FIELDS:
            self.assertEqual(lot_ladder(Net(2, ((0, 1), (1, 0))), p, ()), (((1, 0), (0, 1)), ()))
            self.assertEqual(lot_ladder(Net(1, ()), p, (0,)), ((), ((0, 0),)))
            self.assertEqual(lot_ladder(Net(3, ((0, 1), (0, 2), (1, 2))), p, (0, 1, 2)), ((), ((2, 0), (1, 0), (0, 0))))
            self.assertEqual(lot_ladder(Net(3, ()), p, (0, 1, 2)), ((), ((0, 0), (1, 0), (2, 0))))

    def test_always_the_least_place(self):
        # 0 can be taken only when 3 is, and then stands ahead of 4.
        self.assertEqual(lot_ladder(Net(5, ((0, 3), (1, 4))), 2, (0, 1, 2, 3, 4))[1], ((2, 0), (3, 0), (0, 0), (4, 0), (1, 0)))

    def test_small_nets(self):
        for size in (1, 2, 3):
            for net in all_nets(size):
                self.check(net, 2)

    def test_many(self):
        for net in some_nets(155, 60, 6):
            self.check(net, FIELDS[net.size % 6])

    def test_great_ones(self):
        for net in some_nets(156, 60, 12):
            for p in (2, 13):
                for lot in [tuple(range(net.size)), tuple(range(0, net.size, 2)), tuple(range(1, net.size, 2))]:
                    self.check_lot(net, p, lot)

    def test_errors_in_order(self):
        net = Net(3, ((0, 1), (1, 0), (2, 0)))
        for p in any_values() + [4, 6, 9, 17]:
            if not is_field(p):
                for lot in ((0,), (0, 1), (1, 0), None):
                    expect_number(self, p, lot_ladder, net, p, lot)
        for lot in any_values() + [(3,), (0, 3), (0, 0), (1, 0), (0, 1, 0), (-1, 0), [0, 1], [0], (0, None), (False, 1)]:
            if not (isinstance(lot, tuple) and only_tuples(lot) and lot in ((), (0,))):
                error = expect(self, InvalidLot, {"value": lot}, lot_ladder, net, 2, lot)
                self.assertIs(error.value, lot)
        for lot in ((0, 1), (0, 1, 2)):
            expect(self, Undefined, {"what": "ladder"}, lot_ladder, net, 2, lot)

    def check(self, net, p):
        for many in range(net.size + 1):
            for lot in itertools.combinations(range(net.size), many):
                self.check_lot(net, p, lot)

    def check_lot(self, net, p, lot):
        if not can_order(net, lot):
            expect(self, Undefined, {"what": "ladder"}, lot_ladder, net, p, lot)
            return
        ladder = lot_ladder(net, p, lot)
        self.assertTrue(only_tuples(ladder))
        self.assertTrue(all([is_int(part) for step in ladder[1] for part in step]))
        self.assertEqual(ladder, ladder_by_trial(net, lot))
        self.assertIs(ladder_holds(net.audience(p), ladder), True)
        if net.size <= 4 and p < 11:
            self.assertLessEqual(len(lot), said_least(net.audience(p)))


if __name__ == "__main__":
    unittest.main()
