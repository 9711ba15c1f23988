"""The nets of cells: their ends, and the tiles on which these stand.

An end is a pair of a word, "cell", "input" or "output", and a number.
"""


def source_end(ref):
    """The end that is the source of a net."""
    word, number = ref
    return ("input", number) if word == "in" else ("cell", number)


def nets_of(cells):
    """For the ref of each net its ends, the source first."""
    nets = {}
    for at, (leaves, _, _) in enumerate(cells[2]):
        for leaf in leaves:
            nets.setdefault(leaf, [source_end(leaf)]).append(("cell", at))
    for at, (_, ref) in enumerate(cells[3]):
        nets.setdefault(ref, [source_end(ref)]).append(("output", at))
    return nets


def slots_of(places):
    """For each end of a placement its tile or pad."""
    _, tiles, inputs, outputs = places
    slots = {}
    for word, rows in (("cell", tiles), ("input", inputs), ("output", outputs)):
        for at, slot in enumerate(rows):
            slots[(word, at)] = slot
    return slots


def net_tiles(cells, places):
    """For the ref of each net the tiles of its ends, that of the source first."""
    slots = slots_of(places)
    return {ref: [slots[end][:2] for end in ends] for ref, ends in nets_of(cells).items()}


def span(tiles):
    """The greatest x less the least one, and the greatest y less the least one, together."""
    columns = [tile[0] for tile in tiles]
    rows = [tile[1] for tile in tiles]
    return max(columns) - min(columns) + max(rows) - min(rows)
