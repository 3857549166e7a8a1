"""Points [24] and [25]: the desk."""

import unittest

from keptandsaid.desk import Desk, replayed_desk
from keptandsaid.errors import InvalidLine, InvalidLot, InvalidNet, InvalidNumber, NothingToUndo, SayError, TooMany
from keptandsaid.errors import Undefined, UnknownWord
from keptandsaid.greatest import greatest_store
from keptandsaid.least import kept_most, least_telling, said_least
from keptandsaid.netbounds import ringless_lot
from keptandsaid.nets import Net
from keptandsaid.nettexts import write_net
from keptandsaid.places import comes_back
from keptandsaid.rings import parts_of, some_ring

from helper import FEW, FIELDS, Numbers, any_values, expect, raised, some_nets, two_way_ring, whole_net

NET = Net(3, ((0, 1), (1, 0), (2, 0)))

WORDS = ("arc", "cut", "drop", "turn", "rename", "field", "said", "kept", "telling", "ring", "parts", "lot", "back",
         "store", "undo", "redo")

QUESTIONS = ["said", "kept", "telling", "ring", "parts", "lot", "store 2", "store 3", "back -", "back 0", "back 0,1"]


def net_text(net):
    return write_net(net).replace("\n", ";")


def joined(rows):
    return ";".join([",".join([str(letter) for letter in row]) for row in rows])


class Model:
    """What the document says of a desk, on lists of whole states, for lines whose form is right."""

    def __init__(self, net):
        self.states = [(net, 2, None)]
        self.undone = []

    def run(self, line):
        word, *parts = line.split(" ")
        net, prime, _ = self.states[-1]
        if word == "undo":
            if len(self.states) == 1:
                raise NothingToUndo("undo")
            self.undone.append(self.states.pop())
            return net_text(self.states[-1][0])
        if word == "redo":
            if not self.undone:
                raise NothingToUndo("redo")
            self.states.append(self.undone.pop())
            return net_text(self.states[-1][0])
        lists = [() if part == "-" else tuple(int(one) for one in part.split(",")) for part in parts]
        numbers = [one[0] if one else None for one in lists]
        if word in ("arc", "cut", "drop", "turn", "rename", "field"):
            if word == "field" and numbers[0] not in FIELDS:
                raise InvalidNumber(numbers[0])
            changed = {
                "arc": lambda: net.with_arc(*numbers), "cut": lambda: net.without_arc(*numbers),
                "drop": lambda: net.without_place(*numbers), "turn": net.turned, "rename": lambda: net.renamed(*lists),
                "field": lambda: net,
            }[word]()
            self.states.append((changed, numbers[0] if word == "field" else prime, line))
            self.undone = []
            return parts[0] if word == "field" else net_text(changed)
        return {
            "said": lambda: str(said_least(net.audience(prime))),
            "kept": lambda: str(kept_most(net.audience(prime))),
            "telling": lambda: joined(least_telling(net.audience(prime))),
            "ring": lambda: "none" if some_ring(net) is None else joined([some_ring(net)]),
            "parts": lambda: joined(parts_of(net)),
            "lot": lambda: joined([ringless_lot(net)]),
            "back": lambda: "yes" if comes_back(net, lists[0]) else "no",
            "store": lambda: str(len(greatest_store(net, numbers[0]))),
        }[word]()


def some_line(numbers, size):
    """A line of the right form, which need not be one that can be done."""
    word = WORDS[numbers.below(len(WORDS))]
    if numbers.below(3) == 0:
        word = ("undo", "redo")[numbers.below(2)]
    one, other = str(numbers.below(size + 1)), str(numbers.below(size + 1))
    if word in ("arc", "cut"):
        return f"{word} {one} {other}"
    if word == "drop":
        return f"drop {one}"
    if word == "field":
        return f"field {numbers.below(15)}"
    if word == "store":
        return f"store {numbers.below(7)}"
    if word == "rename":
        order = list(range(size + (numbers.below(6) == 0)))
        order.sort(key=lambda place: numbers.below(1000))
        return "rename " + (",".join(map(str, order)) or "-")
    if word == "back":
        lot = [place for place in range(size + (numbers.below(6) == 0)) if numbers.below(2)]
        return "back " + (",".join(map(str, lot)) or "-")
    return word


def state(desk):
    return (desk.net, desk.prime, desk.lines)


class Deeds(unittest.TestCase):
    def test_told_ones(self):
        desk = Desk(NET)
        self.assertEqual(state(desk), (NET, 2, ()))
        self.assertEqual(desk.run("arc 0 2"), "net 3;1,2;0;0")
        self.assertEqual(desk.run("cut 1 0"), "net 3;1,2;-;0")
        self.assertEqual(desk.run("turn"), "net 3;2;0;0")
        self.assertEqual(desk.run("rename 2,0,1"), "net 3;1;0;1")
        self.assertEqual(desk.run("drop 1"), "net 2;-;-")
        self.assertEqual(desk.run(line="field 13"), "13")
        self.assertEqual((desk.net, desk.prime), (Net(2, ()), 13))
        self.assertEqual(desk.lines, ("arc 0 2", "cut 1 0", "turn", "rename 2,0,1", "drop 1", "field 13"))

    def test_each_of_many_nets(self):
        for net in some_nets(371, 40):
            for i in range(net.size):
                for j in range(net.size):
                    if i != j and (i, j) not in net.arcs:
                        self.check(net, f"arc {i} {j}", net.with_arc(i, j))
                for j in net.knows[i]:
                    self.check(net, f"cut {i} {j}", net.without_arc(i, j))
                if net.size > 1:
                    self.check(net, f"drop {i}", net.without_place(i))
            self.check(net, "turn", net.turned())
            for order in (tuple(range(net.size)), tuple(range(net.size))[::-1]):
                self.check(net, "rename " + ",".join(map(str, order)), net.renamed(order))

    def test_field(self):
        desk = Desk(NET)
        for number in range(100):
            if number in FIELDS:
                self.assertEqual(desk.run(f"field {number}"), str(number))
                self.assertEqual((desk.net, desk.prime), (NET, number))
            else:
                before = state(desk)
                expect(self, InvalidNumber, {"value": number}, desk.run, f"field {number}")
                self.assertEqual(state(desk), before)

    def check(self, net, line, after):
        desk = Desk(net)
        self.assertEqual(desk.run(line), net_text(after))
        self.assertEqual(state(desk), (after, 2, (line,)))


class Questions(unittest.TestCase):
    def test_told_ones(self):
        desk = Desk(NET)
        for line, answer in [
            ("said", "2"), ("kept", "1"), ("ring", "0,1"), ("parts", "0,1;2"), ("lot", "0,2"), ("back 0", "yes"),
            ("back 0,1", "no"), ("back -", "yes"), ("store 2", "2"), ("store 3", "3"),
        ]:
            self.assertEqual(desk.run(line), answer, line)
            self.assertEqual(state(desk), (NET, 2, ()))
        desk = Desk(Net(2, ()))
        for line, answer in [("ring", "none"), ("parts", "0;1"), ("lot", "0,1"), ("said", "2"), ("kept", "0")]:
            self.assertEqual(desk.run(line), answer, line)
        self.assertEqual(Desk(Net(1, ())).run("telling"), "1")
        self.assertEqual(Desk(Net(2, ((0, 1), (1, 0)))).run("telling"), "1,1")

    def test_each_against_its_function(self):
        for net in some_nets(372, 60, 6):
            desk = Desk(net)
            for prime in (2, 3, 5, 13):
                desk.run(f"field {prime}")
                before = state(desk)
                model = Model(net)
                model.run(f"field {prime}")
                for line in QUESTIONS + ["store 4", "store 5", "back 1,2", "back 5", "back 0,1,2,3"]:
                    error = raised(model.run, line)
                    if error is None:
                        self.assertEqual(desk.run(line), model.run(line))
                    else:
                        expect(self, type(error), vars(error), desk.run, line)
                    self.assertEqual(state(desk), before)

    def test_the_prime_matters(self):
        net = Net(4, ((0, 1), (0, 3), (1, 2), (2, 0), (2, 1), (3, 0), (3, 2)))
        desk = Desk(net)
        for prime in (2, 3, 5, 7):
            desk.run(f"field {prime}")
            self.assertEqual(desk.run("said"), str(said_least(net.audience(prime))))
            self.assertEqual(desk.run("telling"), joined(least_telling(net.audience(prime))))

    def test_too_many(self):
        for net, line, what in [
            (whole_net(7), "said", "spaces"), (whole_net(7), "kept", "spaces"), (Net(12, ()), "telling", "spaces"),
            (Net(9, ()), "lot", "places"), (whole_net(12), "lot", "places"), (Net(6, ()), "store 2", "words"),
            (whole_net(4), "store 3", "words"), (Net(3, ()), "store 4", "words"),
        ]:
            expect(self, TooMany, {"what": what}, Desk(net).run, line)
        for p, size in FEW.items():
            desk = Desk(two_way_ring(size + 1))
            desk.run(f"field {p}")
            for line in ("said", "kept", "telling"):
                expect(self, TooMany, {"what": "spaces"}, desk.run, line)
            self.assertEqual(desk.run("drop 0"), net_text(two_way_ring(size + 1).without_place(0)))
            self.assertEqual(desk.run("said"), str(said_least(desk.net.audience(p))))


class UndoAndRedo(unittest.TestCase):
    def test_told_ones(self):
        desk = Desk(NET)
        for word in ("undo", "redo"):
            expect(self, NothingToUndo, {"word": word}, desk.run, word)
        desk.run("arc 1 2")
        desk.run("field 5")
        self.assertEqual(desk.run("undo"), "net 3;1;0,2;0")
        self.assertEqual(state(desk), (NET.with_arc(1, 2), 2, ("arc 1 2",)))
        self.assertEqual(desk.run("undo"), "net 3;1;0;0")
        self.assertEqual(state(desk), (NET, 2, ()))
        expect(self, NothingToUndo, {"word": "undo"}, desk.run, "undo")
        self.assertEqual(desk.run("redo"), "net 3;1;0,2;0")
        self.assertEqual(desk.run("redo"), "net 3;1;0,2;0")
        self.assertEqual(state(desk), (NET.with_arc(1, 2), 5, ("arc 1 2", "field 5")))
        expect(self, NothingToUndo, {"word": "redo"}, desk.run, "redo")

    def test_of_each_deed(self):
        for line in ("arc 1 2", "cut 0 1", "drop 0", "turn", "rename 2,1,0", "field 7", "field 2"):
            desk = Desk(NET)
            answer = desk.run(line)
            after = state(desk)
            self.assertEqual(desk.run("undo"), net_text(NET))
            self.assertEqual(state(desk), (NET, 2, ()))
            self.assertEqual(desk.run("redo"), net_text(NET) if line.startswith("field") else answer)
            self.assertEqual(state(desk), after)

    def test_a_deed_empties_what_can_be_done_again(self):
        for line in ("turn", "field 2", "arc 1 2"):
            desk = Desk(NET)
            desk.run("cut 0 1")
            desk.run("undo")
            desk.run(line)
            expect(self, NothingToUndo, {"word": "redo"}, desk.run, "redo")
            self.assertEqual(desk.lines, (line,))

    def test_questions_and_errors_leave_what_can_be_done_again(self):
        desk = Desk(NET)
        desk.run("cut 0 1")
        desk.run("turn")
        desk.run("undo")
        desk.run("undo")
        refused = ["undo", "arc 0 0", "arc 0 1", "cut 1 2", "drop 9", "rename -", "field 4", "back 2,1"]
        for line in QUESTIONS + WRONG + refused:
            raised(desk.run, line)
            self.assertEqual(state(desk), (NET, 2, ()))
        self.assertEqual(desk.run("redo"), net_text(NET.without_arc(0, 1)))
        self.assertEqual(desk.run("redo"), net_text(NET.without_arc(0, 1).turned()))
        self.assertEqual(desk.lines, ("cut 0 1", "turn"))

    def test_led_at_length(self):
        numbers = Numbers(373)
        told = {}
        for net in list(some_nets(374, 25, 6)):
            desk, model = Desk(net), Model(net)
            for _ in range(80):
                line = some_line(numbers, desk.net.size)
                before = state(desk)
                error = raised(model.run, line)
                kind = type(error) if error else line.split(" ")[0]
                told[kind] = told.get(kind, 0) + 1
                if error is not None:
                    expect(self, type(error), vars(error), desk.run, line)
                    self.assertEqual(state(desk), before)
                else:
                    self.assertIs(type(desk.run(line)), str)
                    self.assertEqual(desk.net, model.states[-1][0])
                    self.assertEqual(desk.prime, model.states[-1][1])
                    self.assertEqual(desk.lines, tuple(line for net, prime, line in model.states[1:]))
                    self.assertIs(type(desk.lines), tuple)
        self.assertTrue(set(WORDS) | {NothingToUndo, Undefined, InvalidNumber, InvalidLot, TooMany} <= set(told), told)

    def test_answers_at_length(self):
        numbers = Numbers(375)
        for net in some_nets(376, 20, 5):
            desk, model = Desk(net), Model(net)
            for _ in range(60):
                line = some_line(numbers, desk.net.size)
                try:
                    answer = model.run(line)
                except SayError as error:
                    expect(self, type(error), vars(error), desk.run, line)
                else:
                    self.assertEqual(desk.run(line), answer)


WRONG = [
    "", " ", "  ", "turn ", " turn", "turn 1", "turns", "Turn", "arc", "arc 1", "arc 1 2 3", "arc  1 2", "arc 1  2",
    "drop", "drop x", "field", "store", "store -", "rename", "back", "undo 1", "redo -", "said ", "nothing", "turn\n",
    "arc 1 2\n",
]


class WrongLines(unittest.TestCase):
    def test_unknown_words(self):
        desk = Desk(NET)
        for line, word in [
            ("", ""), (" ", ""), (" turn", ""), ("  ", ""), ("turns", "turns"), ("Turn", "Turn"), ("ARC 1 2", "ARC"),
            ("nothing at all", "nothing"), ("turn\n", "turn\n"), ("turn\t", "turn\t"), ("arc\t1 2", "arc\t1"),
            ("-", "-"), ("0 1", "0"), ("turn;", "turn;"), ("tur", "tur"), ("\nturn", "\nturn"), ("arc,1,2", "arc,1,2"),
            ("net 3", "net"), ("arc\u00a01 2", "arc\u00a01"), ("undo\x00", "undo\x00"),
        ]:
            error = expect(self, UnknownWord, {"word": word}, desk.run, line)
            self.assertIs(type(error.word), str)

    def test_wrong_words(self):
        desk = Desk(NET)
        for line, at in [
            ("arc", 3), ("arc ", 4), ("arc 1", 5), ("arc 1 ", 6), ("arc 1 2 ", 8), ("arc 1 2 3", 8), ("arc  1 2", 4),
            ("arc 1  2", 6), ("arc x 2", 4), ("arc 1 x", 6), ("arc x y z", 4), ("arc 1 2  ", 8), ("arc 01 2", 4),
            ("arc 1 02", 6), ("arc 100 2", 4), ("arc -1 2", 4), ("arc +1 2", 4), ("arc 1,2", 4), ("arc 1 -", 6),
            ("arc 1 2\n", 6), ("arc 1\n2", 4), ("arc \u0661 2", 4), ("arc 1 \u00b2", 6), ("arc 1 2 3 4", 8),
            ("arc 00 1", 4), ("cut", 3), ("cut 1", 5), ("cut 0 1 x", 8), ("cut 0 1.0", 6), ("cut x", 4), ("drop", 4),
            ("drop ", 5), ("drop -", 5), ("drop 1 1", 7), ("drop 000", 5), ("drop 1,2", 5), ("drop 1\t", 5),
            ("turn ", 5), ("turn x", 5), ("turn  ", 5), ("turn 1 2", 5), ("said ", 5), ("said 2", 5), ("kept x", 5),
            ("telling 0", 8), ("ring ", 5), ("ring -", 5), ("parts  0", 6), ("lot 0,1", 4), ("undo undo", 5),
            ("redo ", 5), ("undo 1", 5), ("field", 5), ("field 2 3", 8), ("field 02", 6), ("field two", 6),
            ("field -", 6), ("field 113", 6), ("store", 5), ("store -", 6), ("store 2 ", 8), ("store 2,2", 6),
            ("store q", 6), ("rename", 6), ("rename ", 7), ("rename 0,1,2 ", 13), ("rename 0,1,x", 7),
            ("rename 0,,1", 7), ("rename 0,1,", 7), ("rename ,0,1", 7), ("rename 0, 1", 7), ("rename --", 7),
            ("rename 0,1,-", 7), ("rename 0,1,02", 7), ("rename 0;1;2", 7), ("rename 0,1,100", 7), ("rename  0,1,2", 7),
            ("rename - -", 9), ("rename (0,1,2)", 7), ("back", 4), ("back ", 5), ("back 0 1", 7), ("back ,", 5),
            ("back 0,", 5), ("back a", 5), ("back 0,1\n", 5), ("back - 0", 7), ("back -0", 5), ("back 0,-1", 5),
        ]:
            expect_line(self, line, at, desk.run)
        self.assertEqual(state(desk), (NET, 2, ()))

    def test_ahead_of_what_the_functions_raise(self):
        desk = Desk(whole_net(12))
        for line, at in [
            ("said 1", 5), ("telling  ", 8), ("lot ", 4), ("arc 99 x", 7), ("arc 0 0 0", 8), ("cut 12", 6),
            ("field 4 ", 8), ("store 9 9", 8), ("rename 0,0 0", 11), ("back 1,0 -", 9), ("undo ", 5), ("redo x", 5),
            ("drop 99 ", 8),
        ]:
            expect_line(self, line, at, desk.run)

    def test_what_the_functions_raise(self):
        desk = Desk(NET)
        for line, kind, kept in [
            ("arc 3 4", InvalidNumber, {"value": 3}), ("arc 0 3", InvalidNumber, {"value": 3}),
            ("arc 99 0", InvalidNumber, {"value": 99}), ("arc 0 0", Undefined, {"what": "arc"}),
            ("arc 0 1", Undefined, {"what": "arc"}), ("cut 3 3", InvalidNumber, {"value": 3}),
            ("cut 1 9", InvalidNumber, {"value": 9}), ("cut 1 1", Undefined, {"what": "arc"}),
            ("cut 0 2", Undefined, {"what": "arc"}), ("drop 3", InvalidNumber, {"value": 3}),
            ("rename -", InvalidLot, {"value": ()}), ("rename 0,1", InvalidLot, {"value": (0, 1)}),
            ("rename 0,1,1", InvalidLot, {"value": (0, 1, 1)}), ("rename 0,1,3", InvalidLot, {"value": (0, 1, 3)}),
            ("rename 2", InvalidLot, {"value": (2,)}), ("field 0", InvalidNumber, {"value": 0}),
            ("field 17", InvalidNumber, {"value": 17}), ("back 1,0", InvalidLot, {"value": (1, 0)}),
            ("back 0,0", InvalidLot, {"value": (0, 0)}), ("back 3", InvalidLot, {"value": (3,)}),
            ("store 0", InvalidNumber, {"value": 0}), ("store 6", InvalidNumber, {"value": 6}),
            ("store 5", InvalidNumber, {"value": 5}), ("store 4", TooMany, {"what": "words"}),
            ("undo", NothingToUndo, {"word": "undo"}), ("redo", NothingToUndo, {"word": "redo"}),
        ]:
            expect(self, kind, kept, desk.run, line)
            self.assertEqual(state(desk), (NET, 2, ()))
        desk = Desk(Net(1, ()))
        expect(self, InvalidNumber, {"value": 1}, desk.run, "drop 1")
        expect(self, Undefined, {"what": "place"}, desk.run, "drop 0")
        expect(self, InvalidNumber, {"value": 4}, Desk(Net(4, ())).run, "store 4")

    def test_a_line_that_raises_changes_nothing(self):
        desk = Desk(NET)
        desk.run("arc 1 2")
        desk.run("turn")
        desk.run("undo")
        before = state(desk)
        for line in WRONG + ["arc 0 9", "arc 0 1", "cut 0 2", "drop 3", "rename 0,1", "field 9", "back 9", "store 9"]:
            self.assertIsInstance(raised(desk.run, line), SayError, line)
            self.assertEqual(state(desk), before)
        self.assertEqual(desk.run("redo"), net_text(NET.with_arc(1, 2).turned()))


def expect_line(case, line, at, call):
    error = expect(case, InvalidLine, {"line": line, "at": at}, call, line)
    case.assertIs(error.line, line)


class Made(unittest.TestCase):
    def test_no_net(self):
        for value in any_values() + [2.0, (3, ()), "net 1", Net, whole_net(2).audience(2)]:
            for call in (Desk, lambda net: replayed_desk(net, ("wrong",)), lambda net: replayed_desk(net, [])):
                expect(self, InvalidNet, {"part": "net", "place": 0}, call, value)

    def test_by_name(self):
        self.assertEqual(state(Desk(net=NET)), (NET, 2, ()))
        self.assertEqual(state(replayed_desk(lines=("turn",), net=NET)), (NET.turned(), 2, ("turn",)))

    def test_two_desks_of_one_net(self):
        one, other = Desk(NET), Desk(NET)
        one.run("turn")
        self.assertEqual(state(other), (NET, 2, ()))
        expect(self, NothingToUndo, {"word": "undo"}, other.run, "undo")


class Replayed(unittest.TestCase):
    def test_lists_and_tuples(self):
        lines = ["arc 1 2", "said", "field 3", "undo", "ring", "redo", "turn", "undo", "redo", "undo"]
        for given in (lines, tuple(lines)):
            desk = replayed_desk(NET, given)
            self.assertEqual(state(desk), (NET.with_arc(1, 2), 3, ("arc 1 2", "field 3")))
            self.assertEqual(desk.run("redo"), net_text(NET.with_arc(1, 2).turned()))
        self.assertEqual(len(lines), 10)
        for given in ([], ()):
            self.assertEqual(state(replayed_desk(NET, given)), (NET, 2, ()))

    def test_the_first_line_that_raises(self):
        expect(self, Undefined, {"what": "arc"}, replayed_desk, NET, ["turn", "turn", "arc 0 1", "wrong"])
        expect(self, UnknownWord, {"word": "wrong"}, replayed_desk, NET, ("wrong", "arc 0 1"))
        expect(self, InvalidLine, {"line": "arc", "at": 3}, replayed_desk, NET, ("turn", "arc"))
        expect(self, NothingToUndo, {"word": "redo"}, replayed_desk, NET, ("turn", "undo", "turn", "redo"))

    def test_answers_every_line_but_redo_alike(self):
        numbers = Numbers(377)
        for net in some_nets(378, 20, 5):
            desk = Desk(net)
            for _ in range(12):
                for _ in range(5):
                    raised(desk.run, some_line(numbers, desk.net.size))
                again = replayed_desk(net, desk.lines)
                self.assertEqual(state(again), state(desk))
                for line in QUESTIONS + WRONG:
                    self.check_alike(desk, again, line)
            while desk.lines:
                self.check_alike(desk, again, "undo")
                self.check_alike(desk, again, "said")
            self.check_alike(desk, again, "undo")
            for _ in range(20):
                line = some_line(numbers, desk.net.size)
                if line != "redo":
                    self.check_alike(desk, again, line)

    def check_alike(self, desk, again, line):
        answers = []
        for one in (desk, again):
            try:
                answers.append(one.run(line))
            except SayError as error:
                answers.append((type(error), vars(error)))
        self.assertEqual(answers[0], answers[1])
        self.assertEqual(state(desk), state(again))


if __name__ == "__main__":
    unittest.main()
