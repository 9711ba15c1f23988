"""Finds routings."""
from beatfabric.combs import combs_of, loads_of
from beatfabric.crowding import settled_trees
from beatfabric.ends import net_tiles
from beatfabric.errors import NotRoutable
from beatfabric.fabrics import entering_selector, opposite


def source_selector(fabric, places, ref):
    """The selector of the source of a net in its own tile."""
    word, number = ref
    if word == "in":
        _, _, side, track = places[2][number]
        return entering_selector(fabric, side, track)
    return 1 if word == "out" else 2


class Laying:
    """Lays trees on tracks.

    turns has the selectors of wires, selectors has that of a net in each tile of its tree.
    """

    def __init__(self, fabric):
        self.fabric = fabric
        self.loads = {}
        self.turns = {}
        self.selectors = {}

    def lay(self, ref, tree, first):
        """Lays a tree, which has the selector first at its source."""
        for tile, side in tree.items():
            if side is None:
                self.selectors[(ref, tile)] = first
            else:
                track = self.loads.get(side, 0)
                self.loads[side] = track + 1
                self.turns[side + (track,)] = self.selectors[(ref, side[:2])]
                self.selectors[(ref, tile)] = entering_selector(self.fabric, opposite(side[2]), track)

    def pins_of(self, tile, leaves):
        """The selectors of the pins of a cell."""
        pins = [self.selectors[(leaf, tile)] for leaf in leaves]
        return tuple(pins + [0] * (self.fabric[4] - len(pins)))


def found_trees(fabric, cells, places):
    """Trees of all nets that no side is too narrow for."""
    combs = combs_of(cells, places)
    loads = loads_of(list(combs.values()))
    if max(list(loads.values()), default=0) <= fabric[3]:
        return combs
    trees = settled_trees(fabric, net_tiles(cells, places))
    if trees is None:
        raise NotRoutable()
    return trees


def route(fabric, cells, places):
    """A routing of cells by a taken placement."""
    laying = Laying(fabric)
    for ref, tree in found_trees(fabric, cells, places).items():
        laying.lay(ref, tree, source_selector(fabric, places, ref))
    for pad, (_, ref) in zip(places[3], cells[3]):
        laying.turns[pad] = laying.selectors[(ref, pad[:2])]
    pins = tuple([laying.pins_of(tile, leaves) for tile, (leaves, _, _) in zip(places[1], cells[2])])
    return ("routes", pins, tuple(sorted(laying.turns.items())))
