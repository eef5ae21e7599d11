"""What can be taken back: a state and those before it, and trials at the end of which all may be as it was."""

from braidwords.errors import NothingToUndo


class History:
    """A state and the earlier ones, one for each change that can be taken back.

    A state itself is never changed, another one takes its place.
    """

    def __init__(self, state):
        self.state = state
        self.earlier = []

    def change(self, state):
        """Another state takes the place of this one."""
        self.earlier.append(self.state)
        self.state = state

    def take_back(self):
        """The state is the one from before the last change."""
        if not self.earlier:
            raise NothingToUndo()
        self.state = self.earlier.pop()


class Kept:
    """What a history was when the rows of a trial began, and what the same trial had kept around them."""

    def __init__(self, history, outer):
        self.state = history.state
        self.earlier = list(history.earlier)
        self.outer = outer


class Trial:
    """For a `with` statement: it gives the owner of a history; when the rows end, the history is as it was.

    If what is done is lasting, the history is as it was only behind an exception.
    """

    def __init__(self, owner, history, lasting):
        self.owner = owner
        self.history = history
        # When the rows end, nothing may be asked but whether something is None.
        self.lasting = True if lasting else None
        self.kept = None

    def __enter__(self):
        self.kept = Kept(self.history, self.kept)
        return self.owner

    def __exit__(self, kind, value, trace):
        history = self.history
        if kind is not None or self.lasting is None:
            history.state = self.kept.state
            history.earlier = self.kept.earlier
        self.kept = self.kept.outer
