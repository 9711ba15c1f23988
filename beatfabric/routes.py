"""Routings: tracing their selectors, and the judge."""
from beatfabric.fabrics import selected
from beatfabric.numbering import are_ascending


class Tracer:
    """Traces selectors back to the refs of cells; met has the wires on the ways as its keys."""

    def __init__(self, fabric, cells, places, routes):
        self.fabric = fabric
        self.cells = cells
        self.turns = {wire: selector for wire, selector in routes[2]}
        self.owners = {tile: at for at, tile in enumerate(places[1])}
        self.inputs = {pad: at for at, pad in enumerate(places[2])}
        self.met = {}

    def ref_at(self, word, place):
        """The ref of a table, a register or an input pad, None if it has none."""
        if word == "pad":
            return ("in", self.inputs[place]) if place in self.inputs else None
        if place not in self.owners:
            return None
        cell = self.owners[place]
        if word == "table":
            return ("out", cell)
        return None if self.cells[2][cell][2] is None else ("reg", cell)

    def traced(self, x, y, selector):
        """The ref at which the tracing of a selector in a tile ends, None if it is not taken."""
        way = {}
        found = selected(self.fabric, x, y, selector)
        while found is not None and found[0] == "wire":
            wire = found[1]
            if wire in way or wire not in self.turns:
                return None
            way[wire] = True
            self.met[wire] = True
            found = selected(self.fabric, wire[0], wire[1], self.turns[wire])
        return None if found is None else self.ref_at(found[0], found[1])

    def pad_ref(self, pad):
        """The ref at which the tracing of an output pad ends, None if it is not taken."""
        if pad not in self.turns:
            return None
        self.met[pad] = True
        return self.traced(pad[0], pad[1], self.turns[pad])


def source_of(fabric, cells, places, routes, x, y, selector):
    """The ref at which the tracing of a selector in a tile ends, None if it is not taken."""
    return Tracer(fabric, cells, places, routes).traced(x, y, selector)


def are_pins(tracer, tile, leaves, pins):
    """Whether the pins of a cell trace to its leaves."""
    if len(pins) != tracer.fabric[4] or any(pins[len(leaves):]):
        return False
    return all([tracer.traced(tile[0], tile[1], pin) == leaf for pin, leaf in zip(pins, leaves)])


def judge_routes(fabric, cells, places, routes):
    """Whether a routing is right for a taken placement."""
    word, pins, turns = routes
    if word != "routes" or len(pins) != len(cells[2]) or not are_ascending([wire for wire, _ in turns]):
        return False
    tracer = Tracer(fabric, cells, places, routes)
    for tile, (leaves, _, _), row in zip(places[1], cells[2], pins):
        if not are_pins(tracer, tile, leaves, row):
            return False
    if not all([tracer.pad_ref(pad) == ref for pad, (_, ref) in zip(places[3], cells[3])]):
        return False
    # A wire that does not exist is never met, and nothing is traced by a wire with the selector 0.
    return all([wire in tracer.met for wire, _ in turns])
