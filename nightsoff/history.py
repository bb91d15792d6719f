"""Deeds that can be undone and redone (point 63)."""

from nightsoff.errors import NightsError, NothingToRedo, NothingToUndo


class History:
    """What has been done, and what was taken back again."""

    def __init__(self):
        # A state is a value that is never changed, so that earlier ones can be kept.
        self._state = ()
        # Each deed with the state before it, and each deed taken back with the one after it.
        self._past = []
        self._future = []

    @property
    def done(self):
        return len(self._past)

    @property
    def undone(self):
        return len(self._future)

    def deeds(self):
        """List the deeds that can be undone, oldest first."""
        return [deed for deed, _ in self._past]

    def do(self, deed):
        """Do a deed. What a deed does is up to the classes below."""
        self._keep(deed, self._state)

    def undo(self):
        """Take back the last deed and return it."""
        if not self._past:
            raise NothingToUndo()
        deed, before = self._past.pop()
        self._future.append((deed, self._state))
        self._state = before
        return deed

    def redo(self):
        """Do the last deed that was taken back again and return it."""
        if not self._future:
            raise NothingToRedo()
        deed, after = self._future.pop()
        self._past.append((deed, self._state))
        self._state = after
        return deed

    def all_of(self, deeds):
        """Do several deeds in order, or none of them if one is refused."""
        before = self.mark()
        try:
            for deed in deeds:
                self.do(deed)
        except NightsError:
            self.back_to(before)
            raise

    def mark(self):
        """Return the present state with its deeds, to come back to it."""
        return (self._state, tuple(self._past), tuple(self._future))

    def back_to(self, mark):
        """Make everything as it was when the mark was made."""
        state, past, future = mark
        self._state = state
        self._past = list(past)
        self._future = list(future)

    def _keep(self, deed, state):
        """Keep a deed that is done, with the state after it."""
        self._past.append((deed, self._state))
        self._future = []
        self._state = state
