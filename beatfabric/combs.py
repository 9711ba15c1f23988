"""The combs of nets, and how many of them use a side.

A tree is a dict: for each tile on it the side (x, y, s) over which it is entered, None for the source, each tile behind
the one from which it is entered.
"""
from beatfabric.ends import net_tiles
from beatfabric.fabrics import EAST, NORTH, SOUTH, WEST, beyond


def side_towards(tile, sink):
    """The side over which a comb leaves a tile on its way to a sink: along the row first."""
    if tile[0] != sink[0]:
        return EAST if tile[0] < sink[0] else WEST
    return SOUTH if tile[1] < sink[1] else NORTH


def comb_of(tiles):
    """The tree of a comb from the first tile to the others."""
    comb = {tiles[0]: None}
    for sink in tiles:
        tile = tiles[0]
        while tile != sink:
            side = side_towards(tile, sink)
            other = beyond(tile[0], tile[1], side)
            comb.setdefault(other, tile + (side,))
            tile = other
    return comb


def combs_of(cells, places):
    """The trees of the combs of all nets, by their refs."""
    return {ref: comb_of(tiles) for ref, tiles in net_tiles(cells, places).items()}


def loads_of(trees):
    """For each side that is used the number of trees that use it."""
    loads = {}
    for tree in trees:
        for side in tree.values():
            if side is not None:
                loads[side] = loads.get(side, 0) + 1
    return loads


def comb_loads(cells, places):
    """Pairs of a side that is used by combs and the number of their nets, ascending."""
    loads = loads_of(list(combs_of(cells, places).values()))
    return tuple(sorted(loads.items()))
