"""Finds good placements."""
from beatfabric.errors import TooLarge
from beatfabric.fabrics import EAST, NORTH, SOUTH, WEST, pads_of, tiles_of
from beatfabric.layout import Layout


def refuse_large(fabric, cells):
    """Raises TooLarge for cells that do not fit a fabric."""
    most = max([len(leaves) for leaves, _, _ in cells[2]], default=0)
    if len(cells[2]) > len(tiles_of(fabric)) or most > fabric[4]:
        raise TooLarge("cells")
    if max(len(cells[1]), len(cells[3])) > len(pads_of(fabric)):
        raise TooLarge("pads")


def shuffled(rows, seed):
    """The rows in an order that a seed tells."""
    found = list(rows)
    many = len(found)
    number = seed
    for at in reversed(range(many)):
        number = (number * 1103515245 + 12345) % 2147483648
        other = number // 65536 % (at + 1)
        row = found[at]
        found[at] = found[other]
        found[other] = row
    return found


def around(fabric):
    """All pads in the order in which a walk around the fabric meets them."""
    _, columns, rows, tracks, _ = fabric
    sides = [(x, 0, NORTH) for x in range(columns)]
    sides.extend([(columns - 1, y, EAST) for y in range(rows)])
    sides.extend([(x, rows - 1, SOUTH) for x in reversed(range(columns))])
    sides.extend([(0, y, WEST) for y in reversed(range(rows))])
    return [side + (track,) for side in sides for track in range(tracks)]


def spread(pads, many, first):
    """So many of the pads, evenly spread from one of them on."""
    return tuple([pads[(first + at * len(pads) // many) % len(pads)] for at in range(many)])


def place(fabric, cells, *, seed=0):
    """A good placement of cells; of the seed only depends which one."""
    refuse_large(fabric, cells)
    pads = around(fabric)
    tiles = shuffled(tiles_of(fabric), seed)
    inputs = spread(pads, len(cells[1]), seed)
    outputs = spread(pads, len(cells[3]), seed)
    layout = Layout(fabric, cells, ("places", tuple(tiles[:len(cells[2])]), inputs, outputs))
    groups = [layout.ends(words) for words in (("cell", "idle"), ("input",), ("output",))]
    shorter = True
    # Each exchange makes the nets shorter, so that there is a last one.
    while shorter:
        shorter = any([layout.shorten(ends) for ends in groups])
    return layout.placement()
