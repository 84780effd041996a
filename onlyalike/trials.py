"""Trials: with statements behind which all is as it was when they began."""


class Trial:
    """A trial of an object whose standing, one value that is never changed itself, tells all that can change."""

    def __init__(self, whole):
        self.whole = whole
        self.begun = whole.standing

    def __enter__(self):
        """The object itself."""
        self.begun = self.whole.standing
        return self.whole

    def __exit__(self, kind, value, trace):
        whole = self.whole
        whole.standing = self.begun
