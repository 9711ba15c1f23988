"""Fabrics: their tiles, wires and pads, and what selectors select."""
from beatfabric.numbering import is_thing

NORTH = 0
EAST = 1
SOUTH = 2
WEST = 3


def tiles_of(fabric):
    """All tiles, row by row."""
    _, columns, rows, _, _ = fabric
    return tuple([(x, y) for y in range(rows) for x in range(columns)])


def is_tile(fabric, x, y):
    """Whether there is such a tile."""
    _, columns, rows, _, _ = fabric
    return is_thing(x, columns) and is_thing(y, rows)


def is_wire(fabric, wire):
    """Whether there is such a wire."""
    x, y, side, track = wire
    return is_tile(fabric, x, y) and is_thing(side, 4) and is_thing(track, fabric[3])


def opposite(side):
    """The side that meets a side of the tile there."""
    return (side + 2) % 4


def beyond(x, y, side):
    """The place beyond a side of a tile, in the fabric or out of it."""
    if side == NORTH:
        return (x, y - 1)
    if side == EAST:
        return (x + 1, y)
    return (x, y + 1) if side == SOUTH else (x - 1, y)


def leads_out(fabric, x, y, side):
    """Whether a side of a tile leads out of the fabric."""
    column, row = beyond(x, y, side)
    return not is_tile(fabric, column, row)


def is_pad(fabric, pad):
    """Whether there is such a pad."""
    x, y, side, _ = pad
    return is_wire(fabric, pad) and leads_out(fabric, x, y, side)


def pads_of(fabric):
    """All input pads, ascending."""
    _, columns, rows, tracks, _ = fabric
    pads = []
    for x in range(columns):
        for y in range(rows):
            for side in range(4):
                if leads_out(fabric, x, y, side):
                    pads.extend([(x, y, side, track) for track in range(tracks)])
    return tuple(pads)


def entering(fabric, x, y, side, track):
    """What enters a tile over a side on a track."""
    if leads_out(fabric, x, y, side):
        return ("pad", (x, y, side, track))
    return ("wire", beyond(x, y, side) + (opposite(side), track))


def entering_selector(fabric, side, track):
    """The selector of what enters a tile over a side on a track."""
    return 3 + side * fabric[3] + track


def selected(fabric, x, y, selector):
    """What a selector in a tile selects, a pair of a word and a place, None if it selects nothing."""
    tracks = fabric[3]
    if selector == 1:
        return ("table", (x, y))
    if selector == 2:
        return ("reg", (x, y))
    if not is_thing(selector - 3, 4 * tracks):
        return None
    return entering(fabric, x, y, (selector - 3) // tracks, (selector - 3) % tracks)
