"""Audiences written as texts: point [26]."""

from keptandsaid.audiences import Audience
from keptandsaid.basics import figures_of, is_size
from keptandsaid.fields import is_field
from keptandsaid.readers import Reader
from keptandsaid.rowtexts import read_row, row_text


def write_audience(audience):
    """The text of an audience."""
    lines = [f"audience {audience.p} {audience.size}"]
    for listener in audience.listeners:
        lines.extend(["listener"] + listener_lines(listener))
    return "\n".join(lines)


def read_audience(text):
    """The audience whose text this is."""
    reader = Reader(text)
    p, size = read_head(reader, "audience")
    reader.skip()
    listeners = []
    while reader.left():
        reader.parts("listener", 0)
        reader.skip()
        knows = _read_all_rows(reader, "knows", p, size)
        wants = _read_all_rows(reader, "wants", p, size)
        listeners.append((knows, wants))
    return Audience(p, size, listeners)


def listener_lines(listener):
    """A line for each row that the listener knows, then one for each that it wants."""
    knows, wants = listener
    return [f"knows {row_text(row)}" for row in knows] + [f"wants {row_text(row)}" for row in wants]


def read_head(reader, head):
    """The field and the size that the line to be read tells behind its head."""
    words = reader.parts(head, 2)
    p = figures_of(words[0], 2)
    size = figures_of(words[1], 2)
    if not is_field(p) or not is_size(size):
        reader.refuse()
    return (p, size)


def read_row_line(reader, head, p, size):
    """The row that the line to be read tells behind its head; the next line is to be read then."""
    words = reader.parts(head, 1)
    row = reader.told(read_row(p, size, words[0]))
    reader.skip()
    return row


def _read_all_rows(reader, head, p, size):
    """The rows of all lines with this head that stand here."""
    rows = []
    while reader.head() == head:
        rows.append(read_row_line(reader, head, p, size))
    return tuple(rows)
