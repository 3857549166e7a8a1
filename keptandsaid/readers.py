"""Texts that are read line by line: what those of audiences, books and histories share."""

from keptandsaid.errors import InvalidText


class Reader:
    """The lines of a text, of which one after the other is read."""

    def __init__(self, text):
        self._text = text
        self._lines = text.split("\n")
        self._number = 0
        self._begin = 0

    def left(self):
        """Whether there is a line still to be read."""
        return self._number < len(self._lines)

    def begin(self):
        """Where the line to be read begins; where the text ends if there is none."""
        return self._begin

    def head(self):
        """The first word of the line to be read, or None if there is none."""
        return self._parted()[0] if self.left() else None

    def parts(self, head, many):
        """The words behind head of the line to be read, which is refused unless it has that head and so many."""
        words = self._parted() if self.left() else []
        if len(words) != many + 1 or words[0] != head:
            self.refuse()
        return words[1:]

    def told(self, value):
        """The value that the line to be read tells; the line is refused if it is None."""
        if value is None:
            self.refuse()
        return value

    def skip(self):
        """The next line is to be read now."""
        # Behind the last line there is no line feed.
        self._begin = min(self._begin + len(self._lines[self._number]) + 1, len(self._text))
        self._number = self._number + 1

    def refuse(self):
        """The line to be read is wrong, or lacking."""
        self.refuse_at(self._begin)

    def refuse_at(self, begin):
        """The line that begins there is wrong."""
        raise InvalidText(self._text, begin)

    def _parted(self):
        return self._lines[self._number].split(" ")
