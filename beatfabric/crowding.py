"""Finds trees of nets that give way to each other, so that no side is used by more of them than there are tracks."""
from heapq import heappop, heappush

from beatfabric.fabrics import beyond, leads_out

MOST_ROUNDS = 40


class Crowd:
    """Trees of nets in a fabric; a side costs more if it is crowded now, and if it has been in earlier rounds."""

    def __init__(self, fabric, nets):
        self.fabric = fabric
        self.nets = nets
        self.trees = {}
        self.loads = {}
        self.past = {}

    def cost(self, side, pressure):
        """What it costs a net to use a side, in a round of this pressure."""
        over = max(0, self.loads.get(side, 0) + 1 - self.fabric[3])
        return (4 + self.past.get(side, 0)) * (1 + pressure * over)

    def found_way(self, tree, sink, pressure):
        """For the tiles between a tree and a sink the sides over which they are entered on a cheapest way."""
        queue = [(0, tile, None) for tile in sorted(tree)]
        entered = {}
        while sink not in entered:
            cost, tile, entry = heappop(queue)
            if tile in entered:
                continue
            entered[tile] = entry
            for direction in range(4):
                side = tile + (direction,)
                if not leads_out(self.fabric, tile[0], tile[1], direction):
                    other = beyond(tile[0], tile[1], direction)
                    heappush(queue, (cost + self.cost(side, pressure), other, side))
        return entered

    def add_way(self, tree, sink, pressure):
        """Adds the tiles up to a sink to a tree."""
        entered = self.found_way(tree, sink, pressure)
        way = []
        tile = sink
        while tile not in tree:
            way.append(tile)
            tile = entered[tile][:2]
        for other in reversed(way):
            tree[other] = entered[other]

    def change(self, ref, many):
        """Adds a number to the loads of the sides that a net uses."""
        for side in self.trees.get(ref, {}).values():
            if side is not None:
                self.loads[side] = self.loads.get(side, 0) + many

    def lay(self, ref, pressure):
        """Finds the tree of a net anew."""
        self.change(ref, -1)
        tiles = self.nets[ref]
        tree = {tiles[0]: None}
        for sink in tiles:
            self.add_way(tree, sink, pressure)
        self.trees[ref] = tree
        self.change(ref, 1)

    def is_settled(self):
        """Whether no side is used by too many nets; crowded ones cost more from now on."""
        settled = True
        for side, many in self.loads.items():
            if many > self.fabric[3]:
                self.past[side] = self.past.get(side, 0) + many - self.fabric[3]
                settled = False
        return settled


def settled_trees(fabric, nets):
    """Trees of nets that no side is too narrow for, None if none are found."""
    crowd = Crowd(fabric, nets)
    for pressure in range(MOST_ROUNDS):
        for ref in nets:
            crowd.lay(ref, pressure)
        if crowd.is_settled():
            return crowd.trees
    return None
