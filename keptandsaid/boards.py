"""Boards: audiences that deeds change, with what must be said to them: point [28]."""

from keptandsaid.audiences import Audience
from keptandsaid.basics import is_size
from keptandsaid.books import book_holds, book_of
from keptandsaid.deeds import audience_after, has_room, is_deed
from keptandsaid.errors import InvalidDeed, InvalidNumber, TooMany
from keptandsaid.fields import check_field
from keptandsaid.least import check_few_spaces, least_telling
from keptandsaid.tellings import first_unserved
from keptandsaid.tracks import Track


class Board:
    """An audience that deeds change, with said of it, a telling of so many rows and a book for this number."""

    def __init__(self, p, size):
        check_field(p)
        if not is_size(size):
            raise InvalidNumber(size)
        check_few_spaces(p, size)
        self._track = Track(Audience(p, size, ()))
        self._telling = ()
        self._book = ()
        self._moves = []

    def audience(self):
        """The audience as it is now."""
        return self._track.state()

    def said(self):
        """The least rank of a telling that serves all."""
        return len(self._telling)

    def telling(self):
        """Some telling of so many rows that serves all."""
        return self._telling

    def book(self):
        """Some book for this number."""
        return self._book

    def deed(self, deed):
        """Does a deed; tells whether the elder telling and book do still, and said."""
        audience = self._track.state()
        if not is_deed(audience, deed):
            raise InvalidDeed(deed)
        after = audience_after(audience, deed)
        if not has_room(after):
            raise TooMany("rows")
        self._track.step(deed, after)
        return self._settled(deed)

    def undo(self):
        """Undoes the last deed done; reports as deed does."""
        self._track.undo()
        return self._settled(("undo",))

    def redo(self):
        """Does the deed undone last again; reports as deed does."""
        self._track.redo()
        return self._settled(("redo",))

    def done(self):
        """The deeds that are done and not undone."""
        return self._track.deeds()

    def moves(self):
        """Each deed, undo and redo that the board was led by, with said, the telling and the book behind it."""
        return tuple(self._moves)

    def _settled(self, move):
        """The report on what stands behind a move; a telling and a book that do not do any more are replaced."""
        elder = self.said()
        word = "kept"
        if not self._elder_ones_do():
            audience = self._track.state()
            self._telling = least_telling(audience)
            self._book = book_of(audience, len(self._telling))
            word = "renewed" if self.said() == elder else "changed"
        self._moves.append((move, self.said(), self._telling, self._book))
        return (word, self.said())

    def _elder_ones_do(self):
        """Whether the telling serves all and the book holds for its rows; then said is their number, as before."""
        audience = self._track.state()
        return first_unserved(audience, self._telling) is None and book_holds(audience, self.said(), self._book)
