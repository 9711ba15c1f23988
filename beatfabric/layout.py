"""Cells and pads that change their places, and how long their nets are then."""
from beatfabric.ends import nets_of, slots_of, span
from beatfabric.fabrics import tiles_of


class Layout:
    """A placement in the making; a tile without a cell has an end of its own, ("idle", number)."""

    def __init__(self, fabric, cells, places):
        self.slots = slots_of(places)
        taken = {tile: True for tile in places[1]}
        for tile in tiles_of(fabric):
            if tile not in taken:
                self.slots[("idle", len(self.slots))] = tile
        self.nets = list(nets_of(cells).values())
        self.touching = {}
        for at, ends in enumerate(self.nets):
            for end in ends:
                self.touching.setdefault(end, []).append(at)
        self.spans = [self.net_span(at) for at in range(len(self.nets))]

    def ends(self, words):
        """The ends with one of some words."""
        return [end for end in self.slots if end[0] in words]

    def net_span(self, at):
        """How long a net is."""
        return span([self.slots[end] for end in self.nets[at]])

    def exchange(self, one, other):
        """Lets two ends change places; the spans are not changed."""
        slot = self.slots[one]
        self.slots[one] = self.slots[other]
        self.slots[other] = slot

    def new_spans(self, one, other):
        """How long the nets of two ends would be if these changed places, by the nets that would change."""
        touched = {at: True for end in (one, other) for at in self.touching.get(end, [])}
        self.exchange(one, other)
        found = {at: self.net_span(at) for at in touched}
        self.exchange(one, other)
        return found

    def gain(self, found):
        """By how much all nets together become shorter with new spans."""
        return sum([self.spans[at] - length for at, length in found.items()])

    def can_shorten(self, ends):
        """Whether the nets become shorter if some two of the ends change places."""
        for at, one in enumerate(ends):
            for other in ends[:at]:
                if self.gain(self.new_spans(one, other)) > 0:
                    return True
        return False

    def shorten(self, ends):
        """Lets pairs of ends change places where this makes the nets shorter; whether there was one."""
        changed = False
        for at, one in enumerate(ends):
            for other in ends[:at]:
                found = self.new_spans(one, other)
                if self.gain(found) > 0:
                    self.exchange(one, other)
                    for net, length in found.items():
                        self.spans[net] = length
                    changed = True
        return changed

    def placement(self):
        """The placement as it is now."""
        rows = [tuple([self.slots[end] for end in self.ends((word,))]) for word in ("cell", "input", "output")]
        return ("places", rows[0], rows[1], rows[2])
