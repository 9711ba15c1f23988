"""When the bits of a device have arrived, and slow paths."""
from beatfabric.streams import configured
from beatfabric.wiring import Wiring


class Times:
    """The arrivals in a configured device.

    awaited has for each node that a clock must wait for the least clock that does.
    """

    def __init__(self, config, outputs, delays):
        _, self.table, self.hop, self.start, self.setup = delays
        self.wiring = Wiring(config)
        self.arrivals = {}
        for node in self.wiring.ordered(outputs):
            self.arrivals[node] = self.arrival(node)
        self.awaited = {("wire", pad): self.arrivals[("wire", pad)] for pad in outputs}
        for tile in self.wiring.read:
            self.awaited[("table", tile)] = self.arrivals[("table", tile)] + self.setup

    def selected(self, node):
        """The nodes that a table or wire selects, none for other nodes."""
        return [other for other in self.wiring.links.get(node, []) if other is not None]

    def source_arrival(self, node):
        """The arrival of a node that is selected, when those of the tables and wires ahead of it are known."""
        if node[0] == "pad":
            return 0
        return self.start if node[0] == "reg" else self.arrivals[node]

    def own_delay(self, node):
        """The delay of a table or wire itself."""
        return self.table if node[0] == "table" else self.hop

    def arrival(self, node):
        """The arrival of a table or wire."""
        rows = [self.source_arrival(other) for other in self.selected(node)]
        return self.own_delay(node) + max(rows) if rows else 0

    def told(self):
        """The told clock."""
        return max([1] + list(self.awaited.values()))

    def way_to(self, node):
        """The nodes on a slowest way to a node, from its beginning on."""
        way = [node]
        sources = self.selected(node)
        while sources:
            rows = [self.source_arrival(other) for other in sources]
            way.append(sources[rows.index(max(rows))])
            sources = self.selected(way[-1])
        return way[::-1]

    def is_way(self, nodes):
        """Whether nodes are those of a slow path; each but the last one exists, for it is selected."""
        if self.selected(nodes[0]) or nodes[-1] not in self.awaited:
            return False
        return all([other in self.selected(node) for other, node in zip(nodes, nodes[1:])])

    def delay_of(self, nodes):
        """The delays of a slow path together."""
        first = self.start if nodes[0][0] == "reg" else 0
        last = self.setup if nodes[-1][0] == "table" else 0
        return first + sum([self.own_delay(node) for node in nodes[1:]]) + last


def told_clock(stream, outputs, delays):
    """The told clock of a stream with output pads."""
    return Times(configured(stream), outputs, delays).told()


def slow_path(stream, outputs, delays):
    """A slow path that is taken for the told clock."""
    times = Times(configured(stream), outputs, delays)
    clock = times.told()
    for node, arrival in times.awaited.items():
        if arrival == clock:
            return tuple([(word,) + place for word, place in times.way_to(node)])
    return ()


def judge_slow_path(stream, outputs, delays, clock, path):
    """Whether a slow path is right for a clock."""
    if not path:
        return clock == 1
    times = Times(configured(stream), outputs, delays)
    nodes = [(place[0], place[1:]) for place in path]
    return times.is_way(nodes) and times.delay_of(nodes) == clock
