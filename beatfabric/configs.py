"""Configurations of fabrics."""
from beatfabric.fabrics import tiles_of


def full_bits(bits, many):
    """So many bits, the first ones again and again."""
    return tuple([bits[number % len(bits)] for number in range(many)])


def tile_turns(fabric, tile, turns):
    """The selectors of all wires of a tile."""
    sides = [tile + (side, track) for side in range(4) for track in range(fabric[3])]
    return tuple([turns.get(wire, 0) for wire in sides])


def config_of(fabric, cells, places, routes):
    """The configuration of cells by a taken placement and a taken routing."""
    k = fabric[4]
    turns = {wire: selector for wire, selector in routes[2]}
    owners = {tile: at for at, tile in enumerate(places[1])}
    tiles = []
    for tile in tiles_of(fabric):
        bits, start, pins = ((0,), None, (0,) * k)
        if tile in owners:
            _, bits, start = cells[2][owners[tile]]
            pins = routes[1][owners[tile]]
        first = 0 if start is None else start
        tiles.append((full_bits(bits, 1 << k), first, pins, tile_turns(fabric, tile, turns)))
    return ("config", fabric, tuple(tiles))
