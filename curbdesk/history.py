"""Going back and coming back through states (point 43)."""

from curbdesk.errors import NothingToRedo, NothingToUndo, UnknownStep


class History:
    """A present state, states to go back to, and states to come back to."""

    def __init__(self, start):
        self._past = []
        self._present = start
        # The state to come back to next stands last.
        self._future = []

    @property
    def state(self):
        """The present state."""
        return self._present

    @property
    def steps(self):
        """The number of states to go back to."""
        return len(self._past)

    @property
    def undone(self):
        """The number of states to come back to."""
        return len(self._future)

    def push(self, state):
        """Make a state the present one, and drop all states to come back to."""
        self._past.append(self._present)
        self._present = state
        self._future = []

    def undo(self):
        """Go back by one state and return it."""
        if len(self._past) == 0:
            raise NothingToUndo()
        self._future.append(self._present)
        self._present = self._past.pop()
        return self._present

    def redo(self):
        """Come back by one state and return it."""
        if len(self._future) == 0:
            raise NothingToRedo()
        self._past.append(self._present)
        self._present = self._future.pop()
        return self._present

    def back_to(self, steps):
        """Go back until there are so many states to go back to, and return the present one."""
        if steps < 0 or steps > self.steps:
            raise UnknownStep(steps)
        while self.steps > steps:
            self.undo()
        return self._present
