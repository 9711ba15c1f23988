"""A block behind which a run's state is what it was."""


class Trial:
    """For `with`: a run whose state is put back when the block is left; the run keeps it in now."""

    def __init__(self, run):
        self.run = run
        self.kept = None

    def __enter__(self):
        self.kept = self.run.now
        return self.run

    def __exit__(self, kind, value, trace):
        run = self.run
        run.now = self.kept
