"""Devices that are clocked: what stands on their wires at every moment.

A wave is an integer with a bit for each moment of a beat and of some moments ahead of it, as many as the greatest delay
has, the first moment lowest.
"""
from beatfabric.streams import configured
from beatfabric.wiring import Wiring

NOISE_BITS = 30


def chosen(bits, waves, full):
    """The wave of a table with these bits whose pins have these waves; full is the wave that is always 1."""
    rows = [full * bit for bit in bits]
    for wave in waves:
        rows = [low ^ ((low ^ high) & wave) for low, high in zip(rows[::2], rows[1::2])]
    return rows[0]


class Clocked:
    """A run of a clocked device.

    lead is the number of moments ahead of a beat; tails has for each node what it was at these, as a wave of them
    alone. What a register contains, and what it shows by its start delay later, are nodes of their own, "content" and
    "reg".
    """

    def __init__(self, stream, inputs, outputs, delays, period, noise=0):
        _, self.table, self.hop, self.start, self.setup = delays
        self.wiring = Wiring(configured(stream))
        self.inputs = inputs
        self.outputs = outputs
        self.lead = max(self.table, self.hop, self.start, self.setup)
        self.period = period
        # The waves that are 1 ahead of the beat, and in the beat and at the moment of its end.
        self.full_tail = (1 << self.lead) - 1
        self.full = (1 << (period + 1)) - 1
        self.order = self.wiring.ordered(outputs)
        self.now = self.wiring.starts
        self.tails = {None: 0}
        for node in self.waved_nodes():
            self.tails[node] = self.full_tail * self.noise_bit(node, noise)

    @classmethod
    def of(cls, build, period=0, noise=0):
        """The clocked device of a build."""
        inputs = tuple([pad for _, pad in build.inputs])
        outputs = tuple([pad for _, pad in build.outputs])
        return cls(build.stream, inputs, outputs, build.delays, period if period > 0 else build.clock, noise)

    def waved_nodes(self):
        """All nodes whose waves count."""
        found = list(self.order)
        for tile in self.wiring.tiles:
            found.extend([("reg", tile), ("content", tile)])
        for node in self.order:
            found.extend([other for other in self.wiring.links[node] if other is not None and other[0] == "pad"])
        return found

    def noise_bit(self, node, noise):
        """The bit that a node has ahead of the first beat."""
        word, place = node
        at = 7 * place[0] + 3 * place[1]
        if word in ("reg", "content"):
            at += 1
        elif word != "table":
            at += 2 + place[2] * self.wiring.fabric[3] + place[3]
        return (noise >> (at % NOISE_BITS)) & 1

    def later(self, wave, delay):
        """What a wave is so many moments later, in the beat and the moment of its end."""
        return (wave >> (self.lead - delay)) & self.full

    def whole(self, node, wave):
        """The wave of a node, given that from the beginning of the beat on."""
        return self.tails[node] + (wave << self.lead)

    def source_waves(self, given):
        """The waves of all nodes but tables and wires."""
        waves = {node: tail for node, tail in self.tails.items() if node is None or node[0] == "pad"}
        for pad, bit in zip(self.inputs, given):
            if ("pad", pad) in waves:
                waves[("pad", pad)] = self.whole(("pad", pad), self.full * bit)
        for tile, bit in zip(self.wiring.tiles, self.now):
            content = self.whole(("content", tile), self.full * bit)
            waves[("content", tile)] = content
            waves[("reg", tile)] = self.whole(("reg", tile), self.later(content, self.start))
        return waves

    def beat(self, given):
        """Does one beat, and returns what is shown."""
        waves = self.source_waves(given)
        for node in self.order:
            selected = [waves[other] for other in self.wiring.links[node]]
            if node[0] == "wire":
                waves[node] = self.whole(node, self.later(selected[0], self.hop))
            else:
                pins = [self.later(wave, self.table) for wave in selected]
                waves[node] = self.whole(node, chosen(self.wiring.tables[node[1]], pins, self.full))
        end = self.period + self.lead
        tables = [waves[("table", tile)] for tile in self.wiring.tiles]
        self.now = tuple([(wave >> (end - self.setup)) & 1 for wave in tables])
        self.tails = {node: (wave >> self.period) & self.full_tail for node, wave in waves.items()}
        return tuple([(waves[("wire", pad)] >> end) & 1 for pad in self.outputs])

    def beats(self, rows):
        """Does a beat for each of the rows, when it is asked for, and yields what is shown."""
        for given in rows:
            yield self.beat(given)
