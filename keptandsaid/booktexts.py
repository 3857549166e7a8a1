"""Books written as texts: point [27]."""

from keptandsaid.basics import figures_of
from keptandsaid.readers import Reader
from keptandsaid.rowtexts import read_rows, rows_text

MOST_FIGURES = 4


def write_book(book):
    """The text of a book."""
    entries = [f"entry {rows_text(space)} {listener} {row}" for space, listener, row in book]
    return "\n".join([f"book {len(book)}"] + entries)


def read_book(p, size, text):
    """The tuple of entries whose text this is."""
    reader = Reader(text)
    book = read_book_lines(reader, p, size)
    if reader.left():
        reader.refuse()
    return book


def read_book_lines(reader, p, size):
    """The tuple of entries that the next lines tell; the line behind them is to be read then."""
    words = reader.parts("book", 1)
    many = reader.told(figures_of(words[0], MOST_FIGURES))
    reader.skip()
    return tuple([_read_entry(reader, p, size) for _ in range(many)])


def _read_entry(reader, p, size):
    words = reader.parts("entry", 3)
    space = reader.told(read_rows(p, size, words[0]))
    listener = reader.told(figures_of(words[1], MOST_FIGURES))
    row = reader.told(figures_of(words[2], MOST_FIGURES))
    reader.skip()
    return (space, listener, row)
