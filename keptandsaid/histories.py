"""Histories of boards, written as texts and judged: point [29]."""

from keptandsaid.audiences import Audience
from keptandsaid.audiencetexts import listener_lines, read_head, read_row_line
from keptandsaid.basics import figures_of
from keptandsaid.books import book_holds
from keptandsaid.booktexts import read_book_lines, write_book
from keptandsaid.deeds import MOST_LISTENERS, MOST_ROWS, audience_after, has_room, is_deed
from keptandsaid.errors import InvalidText
from keptandsaid.least import has_few_spaces, said_least
from keptandsaid.readers import Reader
from keptandsaid.rowtexts import read_row, read_rows, row_text, rows_text
from keptandsaid.tellings import first_unserved
from keptandsaid.tracks import Track


def board_paper(board):
    """The text of all that the board was led through."""
    audience = board.audience()
    lines = [f"board {audience.p} {audience.size}"]
    for move, said, telling, book in board.moves():
        lines.extend(_move_lines(move))
        lines.extend([f"said {said}", f"telling {rows_text(telling)}", write_book(book)])
    return "\n".join(lines)


def paper_holds(text):
    """Whether the text is such a history, whatever tellings and books that do what they must stand in it."""
    try:
        paper_end(text)
    except InvalidText:
        return False
    return True


def paper_end(text):
    """The audience at the end of a history that holds."""
    reader = Reader(text)
    track = Track(_read_board(reader))
    while reader.left():
        _read_move(reader, track)
        _read_behind(reader, track.state())
    return track.state()


def _move_lines(move):
    """The lines of a deed, or of an undo or redo."""
    word = move[0]
    if word == "join":
        knows, wants = move[1]
        return [f"join {len(knows)} {len(wants)}"] + listener_lines(move[1])
    if word == "leave":
        return [f"leave {move[1]}"]
    if word == "hear":
        return [f"hear {move[1]} {row_text(move[2])}"]
    if word == "say":
        return [f"say {row_text(move[1])}"]
    return [word]


def _read_board(reader):
    """The audience of the board that the first line tells."""
    p, size = read_head(reader, "board")
    if not has_few_spaces(p, size):
        reader.refuse()
    reader.skip()
    return Audience(p, size, ())


def _read_move(reader, track):
    """Leads the track by the deed, undo or redo whose lines stand here."""
    head = reader.head()
    if head != "undo" and head != "redo":
        deed = _read_deed(reader, track.state())
        track.step(deed, audience_after(track.state(), deed))
        return
    reader.parts(head, 0)
    if head == "undo" and track.can_undo():
        track.undo()
    elif head == "redo" and track.can_redo():
        track.redo()
    else:
        reader.refuse()
    reader.skip()


def _read_deed(reader, audience):
    """The deed whose lines stand here; it fits the audience."""
    head = reader.head()
    if head == "join":
        return _read_join(reader, audience)
    if head == "leave":
        words = reader.parts(head, 1)
        deed = (head, figures_of(words[0], 2))
    elif head == "hear":
        words = reader.parts(head, 2)
        deed = (head, figures_of(words[0], 2), read_row(audience.p, audience.size, words[1]))
    else:
        words = reader.parts("say", 1)
        deed = ("say", read_row(audience.p, audience.size, words[0]))
    # A word that tells no number or row is None here, and so its deed fits nothing.
    if not is_deed(audience, deed) or not has_room(audience_after(audience, deed)):
        reader.refuse()
    reader.skip()
    return deed


def _read_join(reader, audience):
    """The deed of a listener that joins; its first line is wrong, too, if there is no room for it."""
    words = reader.parts("join", 2)
    knows = reader.told(figures_of(words[0], 2))
    wants = reader.told(figures_of(words[1], 2))
    if knows > MOST_ROWS or wants > MOST_ROWS or len(audience.listeners) >= MOST_LISTENERS:
        reader.refuse()
    reader.skip()
    p = audience.p
    size = audience.size
    known = tuple([read_row_line(reader, "knows", p, size) for _ in range(knows)])
    wanted = tuple([read_row_line(reader, "wants", p, size) for _ in range(wants)])
    return ("join", (known, wanted))


def _read_behind(reader, audience):
    """Reads said, the telling and the book, which must do for the audience."""
    said = said_least(audience)
    words = reader.parts("said", 1)
    if figures_of(words[0], 2) != said:
        reader.refuse()
    reader.skip()
    words = reader.parts("telling", 1)
    telling = reader.told(read_rows(audience.p, audience.size, words[0]))
    if len(telling) != said or first_unserved(audience, telling) is not None:
        reader.refuse()
    reader.skip()
    begin = reader.begin()
    book = read_book_lines(reader, audience.p, audience.size)
    if not book_holds(audience, said, book):
        reader.refuse_at(begin)
