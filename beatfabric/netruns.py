"""Runs of nets of bits."""
from beatfabric.trials import Trial


def literal_bit(bits, literal):
    """The bit of a literal, given the bits of the nodes."""
    return bits[literal // 2] ^ (literal & 1)


def node_bits(net, sources):
    """The bits of all nodes, given those of the inputs and then the registers."""
    bits = [0]
    bits.extend(sources)
    for left, right in net[3]:
        bits.append(literal_bit(bits, left) & literal_bit(bits, right))
    return bits


class NetRun:
    """A run of a right net."""

    def __init__(self, net):
        self.net = net
        self.now = tuple([start for _, start, _ in net[2]])

    def beat(self, given):
        """Does one beat, and returns what is shown."""
        _, _, regs, _, outputs, claims = self.net
        bits = node_bits(self.net, list(given) + list(self.now))
        self.now = tuple([literal_bit(bits, follow) for _, _, follow in regs])
        return tuple([literal_bit(bits, literal) for _, literal in outputs + claims])

    def beats(self, rows):
        """Does a beat for each of the rows, when it is asked for, and yields what is shown."""
        for given in rows:
            yield self.beat(given)

    @property
    def state(self):
        """The bits of the registers."""
        return self.now

    @state.setter
    def state(self, value):
        self.now = value

    def resume(self, state):
        """Goes on from a state."""
        self.now = state

    def trial(self):
        """A block for `with` behind which the state is what it was."""
        return Trial(self)

    def tried(self, rows):
        """What the beats of the rows show; the state stays."""
        with self.trial():
            shown = tuple(self.beats(rows))
        return shown
