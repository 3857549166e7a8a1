"""Point [29]: histories of boards."""

import functools
import re
import unittest

from keptandsaid.audiences import Audience
from keptandsaid.boards import Board
from keptandsaid.books import book_of
from keptandsaid.errors import InvalidText
from keptandsaid.histories import board_paper, paper_end, paper_holds
from keptandsaid.least import least_telling, said_least
from keptandsaid.matrices import rank_of

from helper import FEW, FIELDS, Numbers, changed_texts, expect, holds_by_trial, kind_of, lead, line_begins, raised
from helper import said_by_trial, served

EXAMPLE = "\n".join([
    "board 2 1",
    "join 0 1", "wants 1", "said 1", "telling 1", "book 1", "entry - 0 0",
    "say 1", "said 0", "telling -", "book 0",
])

INTEGER = "(0|[1-9][0-9]?)"
LONGER = "(0|[1-9][0-9]{0,3})"


class Wrong(Exception):
    pass


@functools.lru_cache(maxsize=None)
def said_of(p, size, listeners):
    return said_by_trial(Audience(p, size, listeners))


class Judge:
    """What the document says of a history, line by line, by patterns and trials."""

    def __init__(self, text):
        self.lines = text.split("\n")
        self.k = 0
        self.states = []
        self.undone = []

    def take(self, pattern, ok=lambda found: True):
        """The parts of the next line, which must be of this pattern."""
        found = re.fullmatch(pattern, self.lines[self.k]) if self.k < len(self.lines) else None
        if found is None or not ok(found):
            raise Wrong(self.k)
        self.k += 1
        return found

    def judge(self):
        found = self.take(f"board {INTEGER} {INTEGER}", lambda found: int(found[1]) in FIELDS
                          and 1 <= int(found[2]) <= FEW[int(found[1])])
        self.p, self.size = int(found[1]), int(found[2])
        self.row = "(?:" + ",".join(["(?:" + "|".join(map(str, range(self.p))) + ")"] * self.size) + ")"
        self.rows = f"(-|{self.row}(?:;{self.row})*)"
        self.states.append(())
        while self.k < len(self.lines):
            self.move()
            audience = Audience(self.p, self.size, self.states[-1])
            self.behind(audience)
        return Audience(self.p, self.size, self.states[-1])

    def move(self):
        listeners = self.states[-1]
        many = len(listeners)
        line = self.lines[self.k]
        if line == "undo":
            self.take("undo", lambda found: len(self.states) > 1)
            self.undone.append(self.states.pop())
            return
        if line == "redo":
            self.take("redo", lambda found: len(self.undone) > 0)
            self.states.append(self.undone.pop())
            return
        word = line.split(" ")[0]
        if word == "join":
            found = self.take(f"join {INTEGER} {INTEGER}",
                              lambda found: int(found[1]) <= 20 and int(found[2]) <= 20 and many < 12)
            knows = [self.row_of(self.take(f"knows ({self.row})")[1]) for _ in range(int(found[1]))]
            wants = [self.row_of(self.take(f"wants ({self.row})")[1]) for _ in range(int(found[2]))]
            after = listeners + ((tuple(knows), tuple(wants)),)
        elif word == "leave":
            found = self.take(f"leave {INTEGER}", lambda found: int(found[1]) < many)
            after = listeners[:int(found[1])] + listeners[int(found[1]) + 1:]
        elif word == "hear":
            found = self.take(f"hear {INTEGER} ({self.row})",
                              lambda found: int(found[1]) < many and len(listeners[int(found[1])][0]) < 20)
            changed = list(listeners)
            knows, wants = listeners[int(found[1])]
            changed[int(found[1])] = (knows + (self.row_of(found[2]),), wants)
            after = tuple(changed)
        else:
            found = self.take(f"say ({self.row})", lambda found: all(len(knows) < 20 for knows, wants in listeners))
            after = tuple((knows + (self.row_of(found[1]),), wants) for knows, wants in listeners)
        self.states.append(after)
        self.undone = []

    def behind(self, audience):
        said = said_of(audience.p, audience.size, audience.listeners)
        self.take(f"said {INTEGER}", lambda found: int(found[1]) == said)
        self.take(f"telling {self.rows}", lambda found: self.does(audience, said, self.rows_of(found[1])))
        at = self.k
        many = int(self.take(f"book {LONGER}")[1])
        found = [self.take(f"entry {self.rows} {LONGER} {LONGER}") for _ in range(many)]
        book = tuple((self.rows_of(one[1]), int(one[2]), int(one[3])) for one in found)
        numbers = [len(wants) for knows, wants in audience.listeners]
        if not all(listener < len(numbers) and row < numbers[listener] for space, listener, row in book):
            raise Wrong(at)
        if not holds_by_trial(audience, said, book):
            raise Wrong(at)

    def does(self, audience, said, telling):
        return len(telling) == said and all(served(audience, telling, k) for k in range(len(audience.listeners)))

    def row_of(self, word):
        return tuple(int(letter) for letter in word.split(","))

    def rows_of(self, word):
        return () if word == "-" else tuple(self.row_of(row) for row in word.split(";"))


def judged(text):
    """The audience at the end of a history that holds and None, or None and where it is wrong."""
    judge = Judge(text)
    try:
        return judge.judge(), None
    except Wrong as wrong:
        return None, (line_begins(judge.lines) + [len(text)])[wrong.args[0]]


def expect_at(case, at, text):
    error = expect(case, InvalidText, {"text": text, "at": at}, paper_end, text)
    case.assertIs(error.text, text)
    case.assertIs(paper_holds(text), False)


def expect_line(case, number, text):
    """The text is wrong from its line of this number on."""
    expect_at(case, line_begins(text.split("\n"))[number], text)


def joined(row):
    return ",".join(map(str, row))


def matrix_text(rows):
    return ";".join(map(joined, rows)) or "-"


def paper_by_another(board, numbers):
    """A history of the same moves with other tellings and books that do what they must."""
    lines = board_paper(board).split("\n")
    made = [lines[0]]
    judge = Judge("\n".join(lines))
    judge.k = 1
    judge.p, judge.size = board.audience().p, board.audience().size
    judge.row = "(?:[0-9]+(?:,[0-9]+)*)"
    judge.rows = "(.*)"
    judge.states.append(())
    while judge.k < len(lines):
        begin = judge.k
        judge.move()
        made.extend(lines[begin:judge.k])
        audience = Audience(judge.p, judge.size, judge.states[-1])
        made.extend(behind_by_another(audience, numbers))
        judge.k += 3 + int(lines[judge.k + 2].split(" ")[1])
    return "\n".join(made)


def behind_by_another(audience, numbers):
    """Lines of said, a telling and a book that do, but need not be those that a board tells."""
    p, size = audience.p, audience.size
    telling = least_telling(audience)
    said = len(telling)
    # The same spaces spanned by other rows; and a book that speaks of the listeners the other way round.
    while True:
        mixed = tuple(
            tuple(sum(letter * row[k] for letter, row in zip(letters, telling)) % p for k in range(size))
            for letters in numbers.matrix(p, said, said)
        )
        if rank_of(p, mixed) == said:
            break
    many = len(audience.listeners)
    turned = Audience(p, size, audience.listeners[::-1])
    book = tuple(sorted((space, many - 1 - listener, row) for space, listener, row in book_of(turned, said)))
    yield f"said {said}"
    yield f"telling {matrix_text(mixed)}"
    yield f"book {len(book)}"
    for space, listener, row in book:
        yield f"entry {matrix_text(space)} {listener} {row}"


def some_boards(seed, rounds, moves, sizes=((2, 3), (3, 2), (5, 2), (2, 1), (13, 1), (2, 2))):
    numbers = Numbers(seed)
    for number in range(rounds):
        p, size = sizes[number % len(sizes)]
        yield lead(Board(p, size), numbers, moves)


class BoardPaper(unittest.TestCase):
    def test_the_example(self):
        board = Board(2, 1)
        self.assertEqual(board.deed(("join", ((), ((1,),)))), ("changed", 1))
        self.assertEqual(board.deed(("say", (1,))), ("changed", 0))
        self.assertEqual(board_paper(board), EXAMPLE)
        self.assertEqual(board_paper(board=board), EXAMPLE)
        self.assertIs(paper_holds(EXAMPLE), True)
        self.assertEqual(paper_end(EXAMPLE), board.audience())

    def test_fresh_boards(self):
        for p, size in FEW.items():
            for columns in range(1, size + 1):
                board = Board(p, columns)
                self.assertEqual(board_paper(board), f"board {p} {columns}")
                self.assertIs(paper_holds(text=board_paper(board)), True)
                self.assertEqual(paper_end(text=board_paper(board)), Audience(p, columns, ()))

    def test_sign_by_sign(self):
        numbers = Numbers(411)
        deeds = [
            ("join", (((1, 0), (2, 1)), ((0, 1), (0, 0)))), ("join", ((), ())), ("undo",), ("redo",),
            ("join", ((), ((1, 2),))), ("hear", 2, (0, 2)), ("say", (1, 1)), ("undo",), ("leave", 0), ("undo",),
            ("undo",), ("redo",), ("leave", 1),
        ]
        board = Board(3, 2)
        lines = ["board 3 2"]
        for deed in deeds:
            if deed == ("undo",):
                board.undo()
            elif deed == ("redo",):
                board.redo()
            else:
                board.deed(deed)
            # What raises an error leaves no trace.
            raised(board.deed, ("leave", 12))
            raised(board.deed, ("say", (numbers.below(3),)))
            if deed[0] == "join":
                knows, wants = deed[1]
                lines.append(f"join {len(knows)} {len(wants)}")
                lines.extend("knows " + joined(row) for row in knows)
                lines.extend("wants " + joined(row) for row in wants)
            else:
                parts = [joined(one) if isinstance(one, tuple) else str(one) for one in deed[1:]]
                lines.append(" ".join([deed[0]] + parts))
            lines.append(f"said {board.said()}")
            lines.append(f"telling {matrix_text(board.telling())}")
            lines.append(f"book {len(board.book())}")
            lines.extend(f"entry {matrix_text(space)} {listener} {row}" for space, listener, row in board.book())
            self.assertEqual(board_paper(board), "\n".join(lines))
            self.assertIs(paper_holds(board_paper(board)), True)
            self.assertEqual(paper_end(board_paper(board)), board.audience())

    def test_undo_and_redo_that_raised_errors_leave_no_trace(self):
        board = Board(2, 1)
        raised(board.undo)
        raised(board.redo)
        self.assertEqual(board_paper(board), "board 2 1")
        board.deed(("join", ((), ((1,),))))
        raised(board.redo)
        board.undo()
        raised(board.undo)
        self.assertEqual([line for line in board_paper(board).split("\n") if line in ("undo", "redo")], ["undo"])

    def test_always_holds(self):
        numbers = Numbers(412)
        for p, size in FEW.items():
            for _ in range(4):
                board = lead(Board(p, size), numbers, 40)
                text = board_paper(board)
                self.assertIs(type(text), str)
                self.assertIs(paper_holds(text), True)
                self.assertEqual(paper_end(text), board.audience())
                self.assertEqual(board_paper(board), text)

    def test_great_ones(self):
        numbers = Numbers(413)
        for p, size in FEW.items():
            board = Board(p, size)
            for number in range(12):
                board.deed(("join", (numbers.matrix(p, 1 + number % 2, size), numbers.matrix(p, 20, size))))
            for number in range(14):
                board.deed(("hear", numbers.below(12), numbers.matrix(p, 1, size)[0]))
                board.undo()
            text = board_paper(board)
            self.assertEqual(paper_end(text), board.audience())
            expect_at(self, len(text) + 1, text + "\n")

    def test_twelve_listeners_and_twenty_rows(self):
        board = Board(2, 2)
        for _ in range(12):
            board.deed(("join", (((1, 0),) * 19, ((0, 1),) * 20)))
        board.deed(("hear", 10, (1, 1)))
        board.undo()
        board.deed(("say", (1, 0)))
        text = board_paper(board)
        self.assertEqual(paper_end(text), board.audience())
        self.assertIn("\nhear 10 1,1\n", text)


class ByAnotherHand(unittest.TestCase):
    def test_other_tellings_and_books(self):
        numbers = Numbers(414)
        unlike = 0
        for board in some_boards(415, 40, 20, ((2, 3), (3, 3), (5, 2), (2, 4), (7, 2), (13, 1))):
            text = paper_by_another(board, numbers)
            self.assertIs(paper_holds(text), True)
            self.assertEqual(paper_end(text), board.audience())
            unlike += text != board_paper(board)
        self.assertGreater(unlike, 25)

    def test_others_where_a_board_keeps_the_elder_ones(self):
        text = "\n".join([
            "board 2 2", "join 0 1", "wants 1,0", "said 1", "telling 1,0", "book 1", "entry - 0 0",
            "join 1 1", "knows 0,1", "wants 1,0", "said 1", "telling 1,0", "book 1", "entry - 1 0",
            "leave 0", "said 1", "telling 1,1", "book 2", "entry - 0 0", "entry 0,1 0 0",
        ])
        # The last book is none for 1, as its second space has a row; without it the book holds.
        expect_line(self, 17, text)
        text = text.replace("book 2", "book 1")[:-len("\nentry 0,1 0 0")]
        self.assertEqual(paper_end(text), Audience(2, 2, ((((0, 1),), ((1, 0),)),)))

    def test_books_with_more_entries_than_needed(self):
        head = "board 2 2\njoin 0 2\nwants 1,0\nwants 0,1\nsaid 2\ntelling 1,1;0,1\n"
        for entries in (["- 0 0", "1,0 0 1"], ["- 0 1", "0,1 0 0"], ["- 0 0", "0,1 0 0", "1,0 0 1", "1,1 0 1"]):
            text = head + f"book {len(entries)}\n" + "\n".join("entry " + entry for entry in entries)
            self.assertIs(paper_holds(text), True, text)
        for entries in (
            ["- 0 0", "0,1 0 0"], ["1,0 0 1", "- 0 0"], ["- 0 0", "1,0 0 1", "1,0;0,1 0 0"], ["1,0 0 1"], [],
        ):
            text = head + f"book {len(entries)}" + "".join("\nentry " + entry for entry in entries)
            expect_line(self, 6, text)

    def test_each_number_is_said(self):
        numbers = Numbers(416)
        for board in some_boards(417, 12, 25, ((2, 4), (3, 3), (5, 3), (7, 2))):
            text = paper_by_another(board, numbers)
            lines = text.split("\n")
            for k, line in enumerate(lines):
                if line.startswith("said "):
                    many = int(lines[k + 2].split(" ")[1])
                    end = paper_end("\n".join(lines[:k + 3 + many]))
                    self.assertEqual(line, f"said {said_least(end)}")
                    for other in (said_least(end) + 1, said_least(end) - 1):
                        expect_line(self, k, "\n".join(lines[:k] + [f"said {other}"] + lines[k + 1:]))


class WrongPapers(unittest.TestCase):
    def test_wrong_first_lines(self):
        for head in (
            "", "board", "board 2", "board 2 ", "board 4 2", "board 2 0", "board 2 13", "board 02 2", "board 2 02",
            "board 2 2 2", "board  2 2", " board 2 2", "Board 2 2", "boards 2 2", "audience 2 2", "board 2,2",
            "board 2 x", "board x 2", "board \u0662 2", "board 2 2\r", "say 1", "board 100 2", "board 2 100",
            "board -2 2", "2 2",
        ):
            for behind in ("", "\n", "\nsay 1,1\nsaid 0\ntelling -\nbook 0"):
                expect_at(self, 0, head + behind)
        for p, size in FEW.items():
            for more in range(size + 1, 13):
                expect_at(self, 0, f"board {p} {more}")
                expect_at(self, 0, f"board {p} {more}\nwrong")

    def test_wrong_moves(self):
        ahead = EXAMPLE + "\n"
        for line in (
            "", " ", "undo ", " undo", "undo 1", "Undo", "redo", "redo ", "undone", "leave", "leave ", "leave 1",
            "leave 00", "leave 0 ", "leave 0 0", "leave -1", "leave 100", "leave x", "leave -", "hear", "hear 0",
            "hear 0 ", "hear 1 1", "hear 0 2", "hear 0 1,1", "hear 0 01", "hear 00 1", "hear 0 -", "hear 0 1 1",
            "hear  0 1", "hear x 1", "say", "say ", "say 2", "say 1,1", "say -", "say 01", "say 1 1", "say  1",
            "said 0", "telling -", "book 0", "entry - 0 0", "knows 1", "wants 1", "listener", "board 2 1", "join",
            "join 0", "join 0 ", "join 00 0", "join 0 01", "join 0 0 0", "join x 0", "join 0 -", "join 21 0",
            "join 0 21", "join 99 99", "join 100 0", "join 0 100", "join -1 0", "joined 0 0", "wrong", "telling",
            "undo\r", "\u0661",
        ):
            for behind in ("", "\n", "\nsaid 0\ntelling -\nbook 0", "\nwrong"):
                expect_at(self, len(ahead), ahead + line + behind)

    def test_undo_and_redo(self):
        behind = "said 0\ntelling -\nbook 0"
        text = "board 2 1"
        for word, fit in [
            ("undo", False), ("redo", False), ("say 1", True), ("redo", False), ("undo", True), ("undo", False),
            ("redo", True), ("redo", False), ("undo", True), ("say 0", True), ("redo", False), ("undo", True),
        ]:
            longer = text + "\n" + word + "\n" + behind
            if fit:
                self.assertIs(paper_holds(longer), True)
                text = longer
            else:
                expect_at(self, len(text) + 1, longer)

    def test_joins(self):
        head = "board 2 2\n"
        behind = "\nsaid 0\ntelling -\nbook 0"
        for lines, number in [
            (["join 2 0", "knows 1,0"], 3), (["join 1 1", "wants 1,0"], 2), (["join 1 1", "knows 1,0", "knows 1,0"], 3),
            (["join 0 1", "knows 1,0"], 2), (["join 0 0", "knows 1,0"], 2), (["join 0 0", "wants 1,0"], 2),
            (["join 1 0", "knows 1"], 2), (["join 1 0", "knows 1,2"], 2), (["join 1 0", "knows 1,0 "], 2),
            (["join 1 0", "listener", "knows 1,0"], 2), (["join 1 0", ""], 2),
            (["join 1 1", "wants 1,0", "knows 1,0"], 2), (["join 0 2", "wants 0,0", "wants 0,0,0"], 3),
            (["join 1 0", "knows -"], 2), (["join 20 0"] + ["knows 1,1"] * 19, 21),
            (["join 21 0"] + ["knows 1,1"] * 21, 1), (["join 0 21"] + ["wants 0,0"] * 21, 1),
            (["join 20 21", "wrong"], 1),
        ]:
            expect_line(self, number, head + "\n".join(lines) + behind)
        for lines in (
            ["join 1 0"], ["join 0 1"], ["join 2 0", "knows 1,0"], ["join 1 1", "knows 1,0"], ["join 0 0"], ["join 20 20"],
        ):
            text = head + "\n".join(lines)
            expect_at(self, len(text), text)
        self.assertIs(paper_holds(head + "join 20 20" + "\nknows 1,1" * 20 + "\nwants 0,0" * 20 + behind), True)

    def test_a_thirteenth_listener(self):
        step = "\njoin 0 0\nsaid 0\ntelling -\nbook 0"
        text = "board 2 2" + step * 12
        self.assertEqual(len(paper_end(text).listeners), 12)
        for more in (step, "\njoin 1 0", "\njoin 1 0\nwrong", "\njoin 21 0", "\njoin 0 0"):
            expect_at(self, len(text) + 1, text + more)
        text += "\nleave 11\nsaid 0\ntelling -\nbook 0"
        self.assertIs(paper_holds(text + step), True)
        expect_at(self, len(text + step) + 1, text + step + step)

    def test_too_many_rows(self):
        step = "\nsay 1,0\nsaid 0\ntelling -\nbook 0"
        hear = "\nhear 0 1,0\nsaid 0\ntelling -\nbook 0"
        text = "board 2 2" + step * 25 + "\njoin 19 0" + "\nknows 1,1" * 19 + "\nsaid 0\ntelling -\nbook 0"
        for more in (step, hear):
            self.assertIs(paper_holds(text + more), True)
            for last in (step, hear):
                expect_at(self, len(text + more) + 1, text + more + last)

    def test_wrong_lines_behind_a_deed(self):
        lines = EXAMPLE.split("\n")
        for number, wrong in [
            (3, [
                "said", "said 0", "said 2", "said 01", "said ", "said 1 ", "said -", "said 1 1", "telling 1", "book 1", "",
                "say 1", "undo",
            ]),
            (4, [
                "telling", "telling -", "telling 0", "telling 2", "telling 1;1", "telling 1;0", "telling 01", "telling 1 ",
                "telling 1,1", "telling  1", "telling 1;", "said 1", "", "book 1", "telling 1 1", "telling 1\r",
            ]),
            (5, [
                "book", "book 0", "book -", "book 01", "book 1 ", "book x", "entry - 0 0", "", "say 1", "book 10000",
                "telling 1",
            ]),
            (6, [
                "entry", "entry -", "entry - 0", "entry 1,0 0 0", "entry 2 0 0", "entry - 00 0", "entry - 0 10000", "book 1",
                "", "say 1", "entry - 0 0 0", "entry  - 0 0", "entry - x 0", "entry 1; 0 0",
            ]),
            (8, ["said 1", "said", "said -", "telling -", ""]),
            (9, ["telling 1", "telling 0", "telling", "telling ;", "telling --"]),
            (10, ["book 00", "book", "book -1", "book x", ""]),
        ]:
            for line in wrong:
                for behind in (lines[number + 1:], [], ["wrong"], [""]):
                    expect_line(self, number, "\n".join(lines[:number] + [line] + behind))

    def test_a_book_that_does_not_hold(self):
        lines = EXAMPLE.split("\n")
        for entry in ("- 1 0", "- 0 1", "1 0 0", "0 0 0", "- 9999 0", "- 9999 9999", "- 0 9999", "1;1 0 0"):
            for behind in (lines[7:], [], ["wrong"]):
                expect_line(self, 5, "\n".join(lines[:6] + ["entry " + entry] + behind))
        # Of two entries for the same space, and of one too few, each is of the right form.
        expect_line(self, 5, "\n".join(lines[:5] + ["book 2", lines[6], lines[6]] + lines[7:]))
        expect_line(self, 5, "\n".join(lines[:5] + ["book 0"] + lines[6:]))
        expect_line(self, 7, "\n".join(lines[:7] + [lines[6]] + lines[7:]))
        text = "\n".join(lines[:5] + ["book 2", lines[6]])
        expect_at(self, len(text), text)
        expect_line(self, 7, "\n".join(lines[:5] + ["book 2"] + lines[6:]))
        expect_line(self, 10, EXAMPLE.replace("book 0", "book 1") + "\nentry - 0 0")

    def test_cut_off_behind_each_line(self):
        for board in list(some_boards(418, 10, 12)):
            text = board_paper(board)
            lines = text.split("\n")
            moves = [k for k, line in enumerate(lines) if re.match("(join|leave|hear|say|undo|redo)( |$)", line)]
            ends = {1} | set(moves[1:])
            for k in range(1, len(lines)):
                shorter = "\n".join(lines[:k])
                if k in ends:
                    self.assertIs(paper_holds(shorter), True)
                else:
                    expect_at(self, len(shorter), shorter)
                expect_at(self, len(shorter) + 1, shorter + "\n")

    def test_empty_text_and_line_feeds(self):
        for text in ("", "\n", "\n" + EXAMPLE, " ", "a text", "-", "\x00", "\u2028"):
            expect_at(self, 0, text)
        expect_at(self, len(EXAMPLE) + 1, EXAMPLE + "\n")
        expect_at(self, len(EXAMPLE) + 1, EXAMPLE + "\n\n")
        expect_at(self, 10, "board 2 1\n")
        for sign in ("\r\n", "\r", "\x0b", "\x0c", "\x1c", "\u2028", "\x85", ";"):
            expect_at(self, 0, EXAMPLE.replace("\n", sign))

    def test_changed_in_every_way(self):
        numbers = Numbers(419)
        found = {True: 0, False: 0}
        for board in list(some_boards(420, 10, 6)) + list(some_boards(421, 2, 12, ((2, 2), (3, 2)))):
            for text in (board_paper(board), paper_by_another(board, numbers)):
                for changed in changed_texts(text, numbers, 30):
                    end, at = judged(changed)
                    if at is None:
                        self.assertIs(paper_holds(changed), True)
                        self.assertEqual(paper_end(changed), end)
                        self.assertEqual(kind_of(paper_end(changed).listeners), kind_of(end.listeners))
                    else:
                        expect_at(self, at, changed)
                    found[at is None] += 1
        self.assertTrue(found[True] > 200 and found[False] > 4000, found)

    def test_lines_of_other_papers(self):
        numbers = Numbers(422)
        texts = [board_paper(board) for board in some_boards(423, 16, 8, ((2, 2), (3, 2)))]
        pool = sorted({line for text in texts for line in text.split("\n")})
        found = {True: 0, False: 0}
        for text in texts:
            lines = text.split("\n")
            for k in range(len(lines)):
                for _ in range(4):
                    line = pool[numbers.below(len(pool))]
                    for changed in (lines[:k] + [line] + lines[k + 1:], lines[:k] + [line] + lines[k:]):
                        changed = "\n".join(changed)
                        end, at = judged(changed)
                        if at is None:
                            self.assertEqual(paper_end(changed), end)
                        else:
                            expect_at(self, at, changed)
                        found[at is None] += 1
        self.assertTrue(found[True] > 50 and found[False] > 1000, found)


if __name__ == "__main__":
    unittest.main()
