"""Runs of cells."""
from beatfabric.ordering import in_order
from beatfabric.words import from_bits


class CellsRun:
    """A run of packed cells."""

    def __init__(self, cells):
        links = {}
        for at, (leaves, _, _) in enumerate(cells[2]):
            links[at] = [number for word, number in leaves if word == "out"]
        self.cells = cells
        self.order = in_order(list(links), links)
        self.owners = [at for at, (_, _, start) in enumerate(cells[2]) if start is not None]
        self.now = tuple([cells[2][at][2] for at in self.owners])

    def beat(self, given):
        """Does one beat, and returns what is shown."""
        _, _, cells, outputs = self.cells
        bits = {("in", at): bit for at, bit in enumerate(given)}
        for at, bit in zip(self.owners, self.now):
            bits[("reg", at)] = bit
        for at in self.order:
            leaves, rows, _ = cells[at]
            bits[("out", at)] = rows[from_bits([bits[leaf] for leaf in leaves])]
        self.now = tuple([bits[("out", at)] for at in self.owners])
        return tuple([bits[ref] for _, ref in outputs])

    def beats(self, rows):
        """Does a beat for each of the rows, when it is asked for, and yields what is shown."""
        for given in rows:
            yield self.beat(given)

    @property
    def state(self):
        """The contents of the registers of the cells that have one."""
        return self.now

    @state.setter
    def state(self, value):
        self.now = value

    def resume(self, state):
        """Goes on from a state."""
        self.now = state
