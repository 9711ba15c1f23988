"""Devices that are configured by a stream."""
from beatfabric.streams import configured
from beatfabric.trials import Trial
from beatfabric.wiring import Wiring
from beatfabric.words import from_bits


class Device:
    """A run of a device; places has for each bit that a beat works out what it is of."""

    def __init__(self, stream, inputs, outputs):
        wiring = Wiring(configured(stream))
        wiring.refuse_rings()
        # The bit with number 0 is that of nothing, and of the pads that are not given.
        places = {None: 0}
        for pad in inputs:
            places[("pad", pad)] = len(places)
        for tile in wiring.tiles:
            places[("reg", tile)] = len(places)
        self.steps = []
        many = len(places)
        for node in wiring.ordered(outputs):
            sources = [places.get(other, 0) for other in wiring.links[node]]
            if node[0] == "wire":
                places[node] = sources[0]
            else:
                places[node] = many + len(self.steps)
                self.steps.append((wiring.tables[node[1]], sources))
        self.nexts = [places[("table", tile)] for tile in wiring.tiles]
        self.shown = [places[("wire", pad)] for pad in outputs]
        self.now = wiring.starts

    @classmethod
    def of(cls, build):
        """The device of a build."""
        return cls(build.stream, tuple([pad for _, pad in build.inputs]), tuple([pad for _, pad in build.outputs]))

    def beat(self, given):
        """Does one beat, and returns what is shown."""
        bits = [0]
        bits.extend(given)
        bits.extend(self.now)
        for table, sources in self.steps:
            bits.append(table[from_bits([bits[source] for source in sources])])
        self.now = tuple([bits[at] for at in self.nexts])
        return tuple([bits[at] for at in self.shown])

    def beats(self, rows):
        """Does a beat for each of the rows, when it is asked for, and yields what is shown."""
        for given in rows:
            yield self.beat(given)

    @property
    def state(self):
        """The contents of the registers of all tiles."""
        return self.now

    @state.setter
    def state(self, value):
        self.now = value

    def resume(self, state):
        """Goes on from a state."""
        self.now = state

    def trial(self):
        """A block for `with` behind which the state is what it was."""
        return Trial(self)

    def tried(self, rows):
        """What the beats of the rows show; the state stays."""
        with self.trial():
            shown = tuple(self.beats(rows))
        return shown
