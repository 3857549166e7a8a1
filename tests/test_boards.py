"""Point [28]: boards."""

import unittest

from keptandsaid.audiences import Audience
from keptandsaid.boards import Board
from keptandsaid.books import book_holds
from keptandsaid.errors import InvalidDeed, NothingToUndo, SayError, TooMany
from keptandsaid.least import said_least
from keptandsaid.matrices import is_matrix
from keptandsaid.tellings import first_unserved

from helper import FEW, FIELDS, Numbers, any_values, expect, expect_number, holds_by_trial, is_int, only_tuples
from helper import said_by_trial, served, some_deed

# Their spaces can all be gone through.
SMALL = ((2, 3), (3, 2), (5, 2), (7, 2), (2, 1), (13, 1))

JOIN = ("join", (((1, 0),), ((0, 1),)))


def changed(listeners, deed):
    """The listeners behind a deed, or None if there is no such listener or too many."""
    if deed[0] == "join":
        return listeners + (deed[1],) if len(listeners) < 12 else None
    if deed[0] == "say":
        return tuple((knows + (deed[1],), wants) for knows, wants in listeners)
    if deed[1] >= len(listeners):
        return None
    ahead, one, behind = listeners[:deed[1]], listeners[deed[1]], listeners[deed[1] + 1:]
    if deed[0] == "leave":
        return ahead + behind
    return ahead + ((one[0] + (deed[2],), one[1]),) + behind


def state(board):
    return (board.audience(), board.said(), board.telling(), board.book(), board.done())


class Led:
    """A board that is led beside a plain record of its listeners and deeds."""

    def __init__(self, case, p, size, said=said_by_trial):
        self.case = case
        self.p = p
        self.size = size
        self.said = said
        self.board = Board(p, size)
        self.states = [((), None)]
        self.undone = []
        self.words = []
        self.check()

    def audience(self):
        return Audience(self.p, self.size, self.states[-1][0])

    def check(self):
        board, case = self.board, self.case
        audience, said, telling, book, done = state(board)
        case.assertEqual(audience, self.audience())
        case.assertEqual(said, self.said(audience))
        case.assertTrue(is_int(said))
        case.assertTrue(only_tuples(telling) and is_matrix(telling, self.p, self.size))
        case.assertEqual(len(telling), said)
        case.assertIsNone(first_unserved(audience, telling))
        case.assertTrue(only_tuples(book))
        case.assertIs(book_holds(audience, said, book), True)
        case.assertEqual(done, tuple(deed for listeners, deed in self.states[1:]))
        case.assertIs(type(done), tuple)

    def expected(self, elder):
        """The report that must follow on what stood before."""
        said, telling, book = elder[1:4]
        audience = self.audience()
        now = self.said(audience)
        if now != said:
            return ("changed", now)
        serves = all(served(audience, telling, k) for k in range(len(audience.listeners)))
        holds = holds_by_trial(audience, now, book) if all(
            listener < len(audience.listeners) and row < len(audience.listeners[listener][1])
            for space, listener, row in book
        ) else False
        return ("kept" if serves and holds else "renewed", now)

    def moved(self, call, *deed):
        elder = state(self.board)
        report = call(*deed)
        self.case.assertEqual(report, self.expected(elder))
        self.case.assertIs(type(report), tuple)
        self.case.assertTrue(is_int(report[1]))
        if report[0] == "kept":
            self.case.assertEqual(state(self.board)[1:4], elder[1:4])
        self.words.append(report[0])
        self.check()
        return report

    def deed(self, deed):
        listeners = changed(self.states[-1][0], deed)
        if listeners is None:
            self.refused(InvalidDeed, {"value": deed}, self.board.deed, deed)
        elif any(len(knows) > 20 for knows, wants in listeners):
            self.refused(TooMany, {"what": "rows"}, self.board.deed, deed)
        else:
            self.states.append((listeners, deed))
            self.undone = []
            return self.moved(self.board.deed, deed)

    def undo(self):
        if len(self.states) == 1:
            return self.refused(NothingToUndo, {"word": "undo"}, self.board.undo)
        self.undone.append(self.states.pop())
        return self.moved(self.board.undo)

    def redo(self):
        if not self.undone:
            return self.refused(NothingToUndo, {"word": "redo"}, self.board.redo)
        self.states.append(self.undone.pop())
        return self.moved(self.board.redo)

    def refused(self, kind, kept, call, *deed):
        before = state(self.board)
        expect(self.case, kind, kept, call, *deed)
        self.case.assertEqual(state(self.board), before)


def no_deeds(audience):
    """Values that are no deed that fits this audience of two columns at least and fewer than 12 listeners."""
    many, size, p = len(audience.listeners), audience.size, audience.p
    row = (0,) * size
    rows = (row,)
    wrong_rows = [
        row[1:], row + (0,), list(row), (p,) + row[1:], (-1,) + row[1:], (True,) + row[1:], (None,) + row[1:], None,
        0, "", rows, ((0,),) + row[1:], ("0",) + row[1:], (), {0: 0, 1: 0}, (10 ** 30,) + row[1:],
    ]
    wrong_matrices = [(one,) for one in wrong_rows] + [
        rows + (one,) for one in wrong_rows
    ] + [[row], [], None, 0, "", True, row, rows * 21, rows * 40, {row: 1}]
    wrong = [
        (), ("join",), ("leave",), ("hear",), ("say",), ("hear", 0), ("undo",), ("redo",), ("joined", (rows, rows)),
        ("JOIN", (rows, rows)), ("", 0), (0, 0), (None, row), ("leave ", 0), ["say", row], ["leave", 0], [], "leave",
        "say", ("say", row, row), ("say", 0, row), ("leave", 0, 0), ("leave", (0,)), ("hear", 0, row, row),
        ("hear", row, 0), ("hear", row), ("join", rows, rows), ("join", (rows, rows), 0), ("join", (rows,)),
        ("join", (rows, rows, rows)), ("join", [rows, rows]), ["join", (rows, rows)], ("join", ()), ("join", None),
        ("join", rows), ("join", 0), (("join", (rows, rows)),), (True, row), (("say",), row), {"say": row}, "join",
        ("j", (rows, rows)), ("join", audience), ("leave", audience), ("hear", 0, audience), ("say", audience),
        (audience, row), ("say", "0" * size),
    ]
    wrong += [("say", one) for one in wrong_rows]
    wrong += [("hear", number, one) for number in range(many) for one in wrong_rows]
    wrong += [("join", pair) for one in wrong_matrices for pair in ((one, rows), (rows, one), (one, one), [one, rows])]
    for number in [many, many + 1, -1, True, False, None, "0", (0,), [0], 10 ** 30, -(10 ** 30), 0.0, audience]:
        wrong += [("leave", number), ("hear", number, row)]
    return wrong + any_values()


class Made(unittest.TestCase):
    def test_fresh(self):
        for p, size in FEW.items():
            for columns in range(1, size + 1):
                board = Board(p, columns)
                self.assertEqual(state(board), (Audience(p, columns, ()), 0, (), (), ()))
        self.assertEqual(Board(size=2, p=3).audience(), Audience(3, 2, ()))

    def test_errors_in_order(self):
        for p in any_values() + [9, 17]:
            if not (is_int(p) and p in FIELDS):
                for size in (2, 0, 13, None, 7):
                    expect_number(self, p, Board, p, size)
        for p in FIELDS:
            for size in any_values() + [-1, 0, 13, 14]:
                if not (is_int(size) and 1 <= size <= 12):
                    expect_number(self, size, Board, p, size)
            for size in range(FEW[p] + 1, 13):
                expect(self, TooMany, {"what": "spaces"}, Board, p, size)


class Deeds(unittest.TestCase):
    def test_the_example(self):
        board = Board(2, 1)
        self.assertEqual(board.deed(("join", ((), ((1,),)))), ("changed", 1))
        self.assertEqual(state(board), (Audience(2, 1, (((), ((1,),)),)), 1, ((1,),), (((), 0, 0),), board.done()))
        self.assertEqual(board.deed(deed=("say", (1,))), ("changed", 0))
        self.assertEqual(state(board)[1:4], (0, (), ()))
        self.assertEqual(board.audience(), Audience(2, 1, ((((1,),), ((1,),)),)))
        self.assertEqual(board.done(), (("join", ((), ((1,),))), ("say", (1,))))

    def test_each_deed(self):
        led = Led(self, 3, 2)
        for deed, said in [
            (("say", (1, 1)), 0), (("join", ((), ())), 0), (JOIN, 1), (("join", (((0, 1),), ((1, 0),))), 1),
            (("hear", 1, (1, 2)), 1), (("leave", 0), 1), (("say", (0, 0)), 1), (("leave", 0), 1), (("leave", 0), 0),
        ]:
            self.assertEqual(led.deed(deed)[1], said)
        self.assertEqual(led.board.audience(), Audience(3, 2, ()))

    def test_kept_renewed_and_changed(self):
        led = Led(self, 2, 1)
        want = ("join", ((), ((1,),)))
        self.assertEqual(led.deed(want), ("changed", 1))
        self.assertEqual(led.deed(want), ("kept", 1))
        self.assertEqual(led.deed(("hear", 1, (0,))), ("kept", 1))
        # The elder book is about listener 0, whose number goes to the other one.
        self.assertEqual(led.deed(("leave", 0)), ("kept", 1))
        self.assertEqual(led.deed(("join", ((), ((0,), (1,))))), ("kept", 1))
        # The book is still about listener 0, who knows by now what it wants.
        self.assertEqual(led.deed(("hear", 0, (1,))), ("renewed", 1))
        self.assertEqual(led.undo(), ("kept", 1))
        self.assertEqual(led.redo(), ("kept", 1))
        self.assertEqual(led.deed(("leave", 1)), ("changed", 0))
        self.assertEqual(led.undo(), ("changed", 1))
        self.assertEqual(led.redo(), ("changed", 0))

    def test_the_elder_telling_serves_no_more(self):
        led = Led(self, 3, 2)
        self.assertEqual(led.deed(("join", (((0, 1),), ((1, 0),)))), ("changed", 1))
        self.assertEqual((led.board.telling(), led.board.book()), (((1, 0),), (((), 0, 0),)))
        # The book still holds, but the new listener cannot do with the telling.
        self.assertEqual(led.deed(JOIN), ("renewed", 1))
        self.assertNotEqual(led.board.telling(), ((1, 0),))
        # What was renewed does for the first listener, too.
        telling = led.board.telling()
        self.assertEqual(led.undo(), ("kept", 1))
        self.assertEqual(led.board.telling(), telling)
        self.assertEqual(led.redo(), ("kept", 1))

    def test_led_at_length(self):
        numbers = Numbers(401)
        words = []
        for number in range(30):
            p, size = SMALL[number % len(SMALL)]
            led = Led(self, p, size)
            for _ in range(24):
                kind = numbers.below(6)
                if kind == 0:
                    led.undo()
                elif kind == 1:
                    led.redo()
                else:
                    led.deed(some_deed(numbers, led.audience()))
            words.extend(led.words)
        counts = {word: words.count(word) for word in words}
        self.assertEqual(len(counts), 3)
        self.assertTrue(min(counts.values()) > 10, counts)

    def test_edges_of_few_spaces(self):
        numbers = Numbers(402)
        for p, size in FEW.items():
            led = Led(self, p, size, said_least)
            led.expected = lambda elder, led=led: self.expected_fast(led, elder)
            for number in range(12):
                led.deed(("join", (numbers.matrix(p, numbers.below(size), size), numbers.matrix(p, 1, size))))
            for number in range(14):
                led.deed(("hear", numbers.below(12), numbers.matrix(p, 1, size)[0]))
                led.undo() if number % 3 == 0 else led.deed(("say", numbers.matrix(p, 1, size)[0]))

    def expected_fast(self, led, elder):
        audience = led.audience()
        if said_least(audience) != elder[1]:
            return ("changed", said_least(audience))
        kept = first_unserved(audience, elder[2]) is None and book_holds(audience, elder[1], elder[3])
        return ("kept" if kept else "renewed", elder[1])

    def test_two_boards_led_alike(self):
        numbers = Numbers(403)
        one, other, third = Board(2, 4), Board(2, 4), Board(2, 4)
        for _ in range(30):
            deed = some_deed(numbers, one.audience())
            reports = []
            for board in (one, other):
                try:
                    reports.append(board.deed(deed))
                except SayError as error:
                    reports.append((type(error), vars(error)))
            self.assertEqual(reports[0], reports[1])
            self.assertEqual(state(one), state(other))
        self.assertEqual(state(third), state(Board(2, 4)))


class WrongDeeds(unittest.TestCase):
    def test_values_of_every_kind(self):
        for p, size in ((2, 2), (3, 3), (13, 2)):
            led = Led(self, p, size)
            row = (1,) + (0,) * (size - 1)
            for deed in [None, ("join", ((), (row,))), ("join", ((row,), (row[::-1],)))]:
                if deed is not None:
                    led.deed(deed)
                before = state(led.board)
                for value in no_deeds(led.audience()):
                    error = expect(self, InvalidDeed, {"value": value}, led.board.deed, value)
                    self.assertIs(error.value, value)
                self.assertEqual(state(led.board), before)

    def test_of_one_column(self):
        board = Board(2, 1)
        for deed in (
            ("say", ()), ("say", 1), ("say", (2,)), ("say", ((1,),)), ("say", (1, 1)), ("join", ((1,), ((1,),))),
        ):
            expect(self, InvalidDeed, {"value": deed}, board.deed, deed)
        self.assertEqual(board.deed(("say", (1,))), ("kept", 0))

    def test_a_thirteenth_listener(self):
        board = Board(2, 2)
        for _ in range(12):
            board.deed(JOIN)
        before = state(board)
        for deed in (JOIN, ("join", ((), ())), ("join", ((), ((1, 1),) * 21))):
            expect(self, InvalidDeed, {"value": deed}, board.deed, deed)
        self.assertEqual(state(board), before)
        board.deed(("leave", 11))
        expect(self, InvalidDeed, {"value": ("leave", 11)}, board.deed, ("leave", 11))
        self.assertEqual(board.deed(JOIN)[1], 1)
        expect(self, InvalidDeed, {"value": JOIN}, board.deed, JOIN)
        board.undo()
        self.assertEqual(board.redo()[1], 1)

    def test_twenty_rows(self):
        rows = ((1, 0),) * 20
        for knows, wants, fit in [
            (rows, rows, True), (rows + rows[:1], (), False), ((), rows + rows[:1], False),
            (rows, rows + rows[:1], False), (rows * 2, rows, False), (rows, (), True), ((), rows, True),
        ]:
            board = Board(2, 2)
            deed = ("join", (knows, wants))
            if fit:
                self.assertEqual(board.deed(deed), ("changed", 1) if wants and not knows else ("kept", 0))
            else:
                expect(self, InvalidDeed, {"value": deed}, board.deed, deed)
                self.assertEqual(state(board), state(Board(2, 2)))

    def test_too_many_rows_behind_invalid_deed(self):
        board = Board(2, 2)
        board.deed(("join", ((), ())))
        board.deed(("join", (((1, 0),) * 19, ((0, 1),) * 20)))
        board.deed(("hear", 1, (0, 0)))
        board.undo()
        board.redo()
        before = state(board)
        for deed in (("hear", 1, (0, 0)), ("say", (0, 0)), ("say", (0, 1)), ("hear", 1, (0, 1))):
            expect(self, TooMany, {"what": "rows"}, board.deed, deed)
            self.assertEqual(state(board), before)
        for deed in (("hear", 1, (0, 2)), ("hear", 2, (0, 0)), ("say", (0,)), ("say", [0, 0]), ("hear", True, (0, 0))):
            expect(self, InvalidDeed, {"value": deed}, board.deed, deed)
        self.assertEqual(state(board), before)
        self.assertEqual(board.deed(("hear", 0, (0, 1)))[1], 1)
        board.deed(("leave", 1))
        self.assertEqual(board.deed(("say", (0, 1))), ("kept", 0))

    def test_without_listeners_there_is_nobody_to_know_too_much(self):
        board = Board(2, 2)
        for _ in range(30):
            self.assertEqual(board.deed(("say", (0, 1))), ("kept", 0))
        self.assertEqual(len(board.done()), 30)


class UndoAndRedo(unittest.TestCase):
    def test_nothing(self):
        led = Led(self, 2, 2)
        led.undo()
        led.redo()
        led.deed(JOIN)
        led.redo()
        led.undo()
        led.undo()
        led.redo()
        led.redo()

    def test_behind_one_another(self):
        led = Led(self, 3, 2)
        deeds = [
            JOIN, ("join", ((), ((1, 1), (1, 0)))), ("hear", 1, (0, 1)), ("say", (2, 1)), ("leave", 0), ("leave", 0),
        ]
        for deed in deeds:
            led.deed(deed)
        self.assertEqual(led.board.done(), tuple(deeds))
        for number in range(6, 0, -1):
            led.undo()
            self.assertEqual(led.board.done(), tuple(deeds[:number - 1]))
        led.undo()
        for number in range(6):
            led.redo()
            self.assertEqual(led.board.done(), tuple(deeds[:number + 1]))
        led.redo()

    def test_behind_a_wrong_deed(self):
        led = Led(self, 2, 2)
        led.deed(("join", (((1, 0),) * 20, ((0, 1),))))
        led.deed(("leave", 0))
        led.undo()
        for deed in (("leave", 1), ("hear", 1, (0, 0)), ("say", (0, 0)), ("hear", 0, (0, 1))):
            led.deed(deed)
        self.assertEqual(len(led.undone), 1)
        for value in no_deeds(led.audience())[:40]:
            led.refused(InvalidDeed, {"value": value}, led.board.deed, value)
        self.assertEqual(led.redo(), ("changed", 0))
        led.redo()

    def test_behind_a_new_deed(self):
        led = Led(self, 2, 2)
        led.deed(JOIN)
        led.deed(("say", (1, 1)))
        led.undo()
        led.undo()
        led.deed(("join", ((), ())))
        expect(self, NothingToUndo, {"word": "redo"}, led.board.redo)
        led.undo()
        self.assertEqual(led.redo(), ("kept", 0))
        self.assertEqual(led.board.done(), (("join", ((), ())),))


if __name__ == "__main__":
    unittest.main()
