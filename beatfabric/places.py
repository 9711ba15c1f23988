"""Placements: the judge, their lengths, and whether they are good."""
from beatfabric.ends import net_tiles, span
from beatfabric.fabrics import is_pad, is_tile
from beatfabric.layout import Layout
from beatfabric.numbering import all_different


def are_pads(fabric, pads, many):
    """Whether these are so many different pads."""
    return len(pads) == many and all_different(pads) and all([is_pad(fabric, pad) for pad in pads])


def judge_places(fabric, cells, places):
    """Whether a placement is right."""
    word, tiles, inputs, outputs = places
    if word != "places" or len(tiles) != len(cells[2]) or not all_different(tiles):
        return False
    if not all([is_tile(fabric, x, y) for x, y in tiles]):
        return False
    return are_pads(fabric, inputs, len(cells[1])) and are_pads(fabric, outputs, len(cells[3]))


def length_of(cells, places):
    """The length of a placement."""
    return sum([span(tiles) for tiles in net_tiles(cells, places).values()])


def is_good(fabric, cells, places):
    """Whether no exchange of the cells of two tiles, and no move of a cell, makes a taken placement shorter."""
    layout = Layout(fabric, cells, places)
    return not layout.can_shorten(layout.ends(("cell", "idle")))
