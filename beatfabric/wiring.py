"""What the tables and wires of a configured device select.

A node is a pair of a word, "pad", "reg", "table" or "wire", and its place; what selects nothing selects None.
"""
from beatfabric.errors import Looped
from beatfabric.fabrics import selected, tiles_of
from beatfabric.ordering import in_order, linked_from, on_rings


class Wiring:
    """The tables and wires of a configuration.

    links has for each of them the nodes that it selects, a table by its pins; tables has the bits of the tables by
    their tiles; read has the tiles whose registers are selected as its keys.
    """

    def __init__(self, config):
        _, self.fabric, tiles = config
        self.tiles = tiles_of(self.fabric)
        self.starts = tuple([start for _, start, _, _ in tiles])
        self.links = {}
        self.tables = {}
        self.read = {}
        for tile, (bits, _, pins, turns) in zip(self.tiles, tiles):
            self.tables[tile] = bits
            self.add_links(tile, pins, turns)
            if 2 in pins + turns:
                self.read[tile] = True

    def add_links(self, tile, pins, turns):
        """Notes what the table and the wires of a tile select."""
        x, y = tile
        tracks = self.fabric[3]
        self.links[("table", tile)] = [selected(self.fabric, x, y, pin) for pin in pins]
        for at, selector in enumerate(turns):
            wire = (x, y, at // tracks, at % tracks)
            self.links[("wire", wire)] = [selected(self.fabric, x, y, selector)]

    def refuse_rings(self):
        """Raises Looped if tables and wires hang on each other in a ring."""
        element_links = {}
        for node, others in self.links.items():
            element_links[node] = [other for other in others if other in self.links]
        places = [place for _, place in on_rings(element_links)]
        if places:
            raise Looped(min(places))

    def ordered(self, outputs):
        """The tables and wires that all tables and the output pads hang on, each behind those on which it hangs."""
        seen = {}
        met = []
        for start in [("table", tile) for tile in self.tiles] + [("wire", pad) for pad in outputs]:
            met.extend(linked_from(start, self.links, seen))
        return in_order([node for node in met if node in self.links], self.links)
