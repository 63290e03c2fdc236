"""A trial: behind it all is as it was ahead of it."""


class Trial:
    """For one with statement over something whose state, with a twin, is its attribute now."""

    def __init__(self, owner):
        self.owner = owner
        self.kept = None

    def __enter__(self):
        self.kept = self.owner.now.twin()
        return self.owner

    def __exit__(self, kind, value, trace):
        self.owner.now = self.kept
