"""Point [27]: books as texts."""

import re
import unittest

from keptandsaid.books import book_of
from keptandsaid.booktexts import read_book, write_book
from keptandsaid.errors import InvalidText
from keptandsaid.least import said_least

from helper import FEW, FIELDS, Numbers, changed_texts, expect, kind_of, line_begins, only_tuples, some_audiences

BOOK = (((), 0, 0), (((0, 1),), 1, 0), (((1, 0), (0, 1)), 12, 345))
TEXT = "book 3\nentry - 0 0\nentry 0,1 1 0\nentry 1,0;0,1 12 345"

NUMBER = "(0|[1-9][0-9]{0,3})"


def wrong_at(p, size, text):
    """Where the text is wrong, or None: line by line, by patterns."""
    lines = text.split("\n")
    begins = line_begins(lines)
    head = re.fullmatch("book " + NUMBER, lines[0])
    if head is None:
        return 0
    many = int(head[1])
    row = ",".join(["(" + "|".join(str(k) for k in range(p)) + ")"] * size)
    for number, (begin, line) in enumerate(list(zip(begins, lines))[1:]):
        right = re.fullmatch(f"entry (-|{row}(;{row})*) {NUMBER} {NUMBER}", line)
        if right is None or number >= many:
            return begin
    return None if len(lines) - 1 == many else len(text)


def expect_at(case, at, text, p=2, size=2):
    error = expect(case, InvalidText, {"text": text, "at": at}, read_book, p, size, text)
    case.assertIs(error.text, text)


class ThereAndBack(unittest.TestCase):
    def test_told_ones(self):
        for p, size, book, text in (
            (2, 2, BOOK, TEXT), (2, 2, (), "book 0"), (13, 12, (), "book 0"),
            (2, 1, (((), 0, 0),), "book 1\nentry - 0 0"),
            (13, 2, ((((12, 10), (0, 9)), 9999, 1000),), "book 1\nentry 12,10;0,9 9999 1000"),
            (2, 1, ((((1,),), 3, 4), (((1,), (1,), (0,)), 0, 0)), "book 2\nentry 1 3 4\nentry 1;1;0 0 0"),
        ):
            self.assertEqual(write_book(book), text)
            self.assertEqual(write_book(book=book), text)
            self.check(p, size, book)
            self.assertEqual(read_book(text=text, size=size, p=p), book)

    def test_books(self):
        for audience in some_audiences(391, 60, FEW):
            for r in range(said_least(audience) + 1):
                self.check(audience.p, audience.size, book_of(audience, r))

    def test_entries_of_any_kind(self):
        numbers = Numbers(392)
        for p in FIELDS:
            for size in (1, 2, 5, 12):
                self.check(p, size, tuple(
                    (numbers.matrix(p, numbers.below(4), size), numbers.below(10000), numbers.below(10000))
                    for _ in range(numbers.below(30))
                ))
        self.check(2, 1, (((), 0, 0),) * 4000)

    def test_what_is_no_book_is_read(self):
        for book in (BOOK[::-1], BOOK + BOOK, (((), 99, 99),) * 3, ((((0, 0), (0, 0)), 0, 0),)):
            self.check(2, 2, book)

    def check(self, p, size, book):
        text = write_book(book)
        self.assertIs(type(text), str)
        lines = [f"book {len(book)}"]
        for space, listener, row in book:
            rows = ";".join([",".join(map(str, one)) for one in space])
            lines.append(f"entry {rows or '-'} {listener} {row}")
        self.assertEqual(text, "\n".join(lines))
        back = read_book(p, size, text)
        self.assertEqual(back, book)
        self.assertEqual(kind_of(back), kind_of(book))
        self.assertTrue(only_tuples(back))


class WrongTexts(unittest.TestCase):
    def test_wrong_first_lines(self):
        for head in (
            "", "book", "book ", "book -1", "book -", "book 03", "book 00", "book 10000", "book 00001", "book x",
            "book 3 ", " book 3", "book  3", "Book 3", "books 3", "book 3 3", "book\t3", "book \u0663", "book 3\r",
            "book 3,", "3", "entry - 0 0", "book +3", "book 1_0", "book 3.0",
        ):
            for behind in ("", "\n", "\nentry - 0 0", "\nentry - 0 0\nentry - 0 0\nentry - 0 0"):
                expect_at(self, 0, head + behind)

    def test_wrong_entries(self):
        for line in (
            "", " ", "entry", "entry ", "entry -", "entry - 0", "entry - 0 ", "entry - 0 0 ", "entry - 0 0 0",
            "entry  - 0 0", "entry -  0 0", " entry - 0 0", "Entry - 0 0", "entries - 0 0", "entry 1 0 0",
            "entry 1,0,1 0 0", "entry 1,2 0 0", "entry 1,0;1 0 0", "entry 1,0; 0 0", "entry ;1,0 0 0",
            "entry 1,0;;0,1 0 0", "entry 1,0;- 0 0", "entry -;1,0 0 0", "entry 1,0, 0 0", "entry 1, 0 0 0",
            "entry 01,0 0 0", "entry 1,00 0 0", "entry -- 0 0", "entry - 00 0", "entry - 0 01", "entry - 10000 0",
            "entry - 0 10000", "entry - 0 12345", "entry - 00000 0", "entry - x 0", "entry - 0 x", "entry - - 0",
            "entry - 0 -1", "entry - +1 0", "entry - \u0661 0", "entry - 0 0\r", "entry\t- 0 0", "entry () 0 0",
            "book 3", "- 0 0", "entry 1;0 0 0",
        ):
            for ahead in ("book 3\n", "book 3\nentry - 0 0\n", "book 3\nentry - 0 0\nentry 0,1 1 0\n"):
                for behind in ("", "\n", "\nentry - 0 0", "\nwrong"):
                    expect_at(self, len(ahead), ahead + line + behind)

    def test_letters_and_columns(self):
        self.assertEqual(read_book(3, 2, "book 1\nentry 2,0 0 0"), ((((2, 0),), 0, 0),))
        expect_at(self, 7, "book 1\nentry 2,0 0 0", 2, 2)
        expect_at(self, 7, "book 1\nentry 2,0 0 0", 3, 1)
        expect_at(self, 7, "book 1\nentry 2,0 0 0", 3, 3)
        expect_at(self, 7, "book 1\nentry 13,0 0 0", 13, 2)

    def test_more_and_fewer_entries_than_told(self):
        for told in ("4", "5", "10", "9999"):
            text = TEXT.replace("book 3", "book " + told)
            expect_at(self, len(text), text)
        self.assertEqual(read_book(2, 2, TEXT), BOOK)
        expect_at(self, 33, "book 2" + TEXT[6:])
        expect_at(self, 19, "book 1" + TEXT[6:])
        expect_at(self, 7, "book 0" + TEXT[6:])
        expect_at(self, 7, "book 0\n")
        expect_at(self, 7, "book 1\n")
        expect_at(self, 6, "book 1")
        expect_at(self, 19, "book 2\nentry - 0 0\n")
        expect_at(self, 18, "book 2\nentry - 0 0")

    def test_empty_text_and_line_feeds(self):
        for text in ("", "\n", "\n" + TEXT):
            expect_at(self, 0, text)
        expect_at(self, len(TEXT) + 1, TEXT + "\n")
        expect_at(self, len(TEXT) + 1, TEXT + "\nwrong")
        for sign in ("\r\n", "\r", "\x0b", "\x0c", "\x1c", "\u2028", "\x85"):
            expect_at(self, 0, TEXT.replace("\n", sign))

    def test_changed_in_every_way(self):
        numbers = Numbers(393)
        found = {True: 0, False: 0}
        books = [(2, 2, BOOK)] + [
            (audience.p, audience.size, book_of(audience, said_least(audience)))
            for audience in some_audiences(394, 25, {2: 4, 3: 3, 13: 2})
        ]
        for p, size, book in books:
            for changed in changed_texts(write_book(book[:12]), numbers):
                at = wrong_at(p, size, changed)
                if at is None:
                    self.assertEqual(write_book(read_book(p, size, changed)), changed)
                else:
                    expect_at(self, at, changed, p, size)
                found[at is None] += 1
        self.assertTrue(found[True] > 50 and found[False] > 1000, found)


if __name__ == "__main__":
    unittest.main()
