"""States that one deed after the other leads to, with undoing and doing again: what desks and boards share."""

from keptandsaid.errors import NothingToUndo


class Track:
    """A first state, the deeds done since, and the deeds undone, each with the state that it led to."""

    def __init__(self, first):
        self._first = first
        self._done = []
        self._undone = []

    def state(self):
        """The state as it is now."""
        return self._done[-1][1] if self.can_undo() else self._first

    def step(self, deed, state):
        """A deed leads to a state; what was undone cannot be done again any more."""
        self._done.append((deed, state))
        self._undone = []

    def can_undo(self):
        """Whether there is a deed to undo."""
        return len(self._done) > 0

    def can_redo(self):
        """Whether there is a deed to do again."""
        return len(self._undone) > 0

    def undo(self):
        """The state is as it was ahead of the last deed."""
        if not self.can_undo():
            raise NothingToUndo("undo")
        self._undone.append(self._done.pop())

    def redo(self):
        """The deed undone last is done again."""
        if not self.can_redo():
            raise NothingToUndo("redo")
        self._done.append(self._undone.pop())

    def deeds(self):
        """The deeds that are done and not undone."""
        return tuple([deed for deed, state in self._done])
