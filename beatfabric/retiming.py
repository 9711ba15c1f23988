"""Retimes nets by lag papers."""
from beatfabric.lags import direct_ands, node_lags
from beatfabric.netruns import NetRun, literal_bit, node_bits
from beatfabric.nets import first_and
from beatfabric.ordering import in_order
from beatfabric.tidy import tidied
from beatfabric.traces import refuse_held, trace_of


def early_bits(net, many):
    """The bits of all nodes in so many beats from the start on, for inputs that are 0."""
    run = NetRun(net)
    none = (0,) * len(net[1])
    beats = []
    for _ in range(many):
        beats.append(node_bits(net, none + run.state))
        run.beat(none)
    return beats


def free_names(net, many):
    """So many names for registers that no input has."""
    taken = {name: True for name in net[1]}
    names = []
    number = 0
    while len(names) < many:
        name = f"r{number}"
        if name not in taken:
            names.append(name)
        number += 1
    return names


class Retiming:
    """The retimed net in the making.

    A new register is a triple: its start, the new register ahead of it or None, and otherwise a literal of the net
    whose new node is ahead of it.
    """

    def __init__(self, net, lags):
        self.net = net
        self.first = first_and(net)
        self.lags = node_lags(net, lags)
        self.regs = []
        self.places = {}
        self.chains = {}
        self.early = []

    def needs_of(self, literal, lag):
        """The literal with which the trace of a literal ends, and how many registers stand behind it."""
        row, end = trace_of(self.net, literal)
        return end, len(row) + self.lags[end // 2] - lag

    def add_chain(self, literal, lag):
        """Makes the registers that bring a literal to what has that lag."""
        end, many = self.needs_of(literal, lag)
        place = None
        for beat in reversed(range(lag, lag + many)):
            start = literal_bit(self.early[beat], literal)
            reg = (start, place, end if place is None else None)
            if reg not in self.places:
                self.places[reg] = len(self.regs)
                self.regs.append(reg)
            place = self.places[reg]
        self.chains[(literal, lag)] = (place, end)

    def new_literal(self, literal, lag, nodes):
        """The literal in the new net that stands for a literal in what has that lag, given the new nodes."""
        place, end = self.chains[(literal, lag)]
        if place is None:
            return 2 * nodes[end // 2] + (end & 1)
        return 2 * (1 + len(self.net[1]) + place)

    def readings(self):
        """Pairs (literal, lag) of all literals that ands, outputs and claims read."""
        _, _, _, ands, outputs, claims = self.net
        rows = [(literal, 0) for _, literal in outputs + claims]
        for at, pair in enumerate(ands):
            rows.extend([(literal, self.lags[self.first + at]) for literal in pair])
        return rows

    def add_chains(self):
        """Makes all registers."""
        readings = self.readings()
        beats = [lag + self.needs_of(literal, lag)[1] for literal, lag in readings]
        self.early = early_bits(self.net, max(beats, default=0))
        for literal, lag in readings:
            self.add_chain(literal, lag)

    def made_net(self, order):
        """The retimed net, not yet tidy, with the ands in an order."""
        _, inputs, _, ands, outputs, claims = self.net
        ahead = 1 + len(inputs)
        nodes = {node: node for node in range(ahead)}
        for at, node in enumerate(order):
            nodes[node] = ahead + len(self.regs) + at
        regs = []
        for name, (start, place, end) in zip(free_names(self.net, len(self.regs)), self.regs):
            follow = 2 * (ahead + place) if end is None else 2 * nodes[end // 2] + (end & 1)
            regs.append((name, start, follow))
        pairs = []
        for node in order:
            lag = self.lags[node]
            pairs.append(tuple([self.new_literal(literal, lag, nodes) for literal in ands[node - self.first]]))
        shown = [(name, self.new_literal(literal, 0, nodes)) for name, literal in outputs]
        claimed = [(name, self.new_literal(literal, 0, nodes)) for name, literal in claims]
        return ("net", inputs, tuple(regs), tuple(pairs), tuple(shown), tuple(claimed))


def retimed(net, lags):
    """The net that is retimed by a taken lag paper."""
    refuse_held(net)
    retiming = Retiming(net, lags)
    retiming.add_chains()
    ahead = direct_ands(net, lags)
    return tidied(retiming.made_net(in_order(list(ahead), ahead)))
