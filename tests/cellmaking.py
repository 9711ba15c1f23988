"""Random tables, cells, fabrics and placements, and slow words of the document about them, for the tests."""


def random_tables(source, inputs=3, regs=3, tables=6, outputs=3, k=4):
    """Right tables, whose registers and outputs can have any next and ref."""
    ahead = inputs + regs
    rows = []
    for at in range(tables):
        many = source.randrange(min(k, ahead + at) + 1)
        leaves = tuple(source.sample(range(ahead + at), many))
        rows.append((leaves, tuple(source.randrange(2) for _ in range(2 ** many))))
    refs = ahead + tables
    outputs = outputs if refs else 0
    return (
        "tables", tuple(f"i{at}" for at in range(inputs)),
        tuple((f"r{at}", source.randrange(2), source.randrange(refs)) for at in range(regs)), tuple(rows),
        tuple((f"y{at}", source.randrange(refs)) for at in range(outputs)),
    )


def any_tables(source, k=4):
    return random_tables(
        source, source.randrange(4), source.randrange(5), source.randrange(8), source.randrange(5), k,
    )


def random_packing(source, tables):
    """Any packing that is taken."""
    _, inputs, regs, rows, _ = tables
    pairs = {}
    for reg in source.sample(range(len(regs)), len(regs)):
        table = regs[reg][2] - len(inputs) - len(regs)
        if table >= 0 and source.randrange(4):
            pairs.setdefault(table, reg)
    packing = [(table, pairs.get(table)) for table in range(len(rows))]
    packing += [(None, reg) for reg in range(len(regs)) if reg not in pairs.values()]
    source.shuffle(packing)
    return tuple(packing)


def slow_judge_packing(tables, packing):
    """The words of the document, one by one."""
    _, inputs, regs, rows, _ = tables
    for table, reg in packing:
        if table is not None and table not in range(len(rows)):
            return False
        if reg is not None and reg not in range(len(regs)):
            return False
        if (table, reg) == (None, None):
            return False
        if table is not None and reg is not None and regs[reg][2] != len(inputs) + len(regs) + table:
            return False
    for at, many in ((0, len(rows)), (1, len(regs))):
        for number in range(many):
            if len([pair for pair in packing if pair[at] == number]) != 1:
                return False
    return True


def random_cells(source, k=4, **sizes):
    from beatfabric.packing import cells_of
    tables = random_tables(source, k=k, **sizes) if sizes else any_tables(source, k)
    return cells_of(tables, random_packing(source, tables))


def slow_pads(fabric):
    """All pads, ascending."""
    _, columns, rows, tracks, _ = fabric
    found = []
    for x in range(columns):
        for y in range(rows):
            for side, out in enumerate((y == 0, x == columns - 1, y == rows - 1, x == 0)):
                found += [(x, y, side, track) for track in range(tracks) if out]
    return sorted(found)


def slow_tiles(fabric):
    return [(x, y) for y in range(fabric[2]) for x in range(fabric[1])]


def random_fabric(source, columns=4, rows=4, tracks=4, k=4):
    return (
        "fabric", source.randrange(1, columns + 1), source.randrange(1, rows + 1), source.randrange(1, tracks + 1),
        source.randrange(2, k + 1),
    )


def fitting(fabric, cells):
    """Whether cells fit a fabric."""
    pads = len(slow_pads(fabric))
    return (
        len(cells[2]) <= fabric[1] * fabric[2] and max(len(cells[1]), len(cells[3])) <= pads
        and all(len(leaves) <= fabric[4] for leaves, _, _ in cells[2])
    )


def random_places(source, fabric, cells):
    """Any placement that is taken."""
    pads = slow_pads(fabric)
    return (
        "places", tuple(source.sample(slow_tiles(fabric), len(cells[2]))),
        tuple(source.sample(pads, len(cells[1]))), tuple(source.sample(pads, len(cells[3]))),
    )


def random_placed(source, **limits):
    """A fabric, cells that fit it, and any placement of them."""
    while True:
        fabric = random_fabric(source, **limits)
        cells = random_cells(source, fabric[4])
        if fitting(fabric, cells):
            return fabric, cells, random_places(source, fabric, cells)


def slow_nets(cells):
    """The refs of all nets."""
    refs = [leaf for leaves, _, _ in cells[2] for leaf in leaves] + [ref for _, ref in cells[3]]
    return sorted(set(refs))


def slow_source(places, ref):
    return places[2][ref[1]][:2] if ref[0] == "in" else places[1][ref[1]]


def slow_sinks(cells, places, ref):
    sinks = [tile for tile, (leaves, _, _) in zip(places[1], cells[2]) if ref in leaves]
    return sinks + [pad[:2] for pad, (_, other) in zip(places[3], cells[3]) if other == ref]


def slow_length(cells, places):
    """The words of the document, one by one."""
    total = 0
    for ref in slow_nets(cells):
        ends = [slow_source(places, ref)] + slow_sinks(cells, places, ref)
        for at in (0, 1):
            total += max(end[at] for end in ends) - min(end[at] for end in ends)
    return total


def slow_judge_places(fabric, cells, places):
    word, tiles, inputs, outputs = places
    pads = slow_pads(fabric)
    return (
        word == "places" and (len(tiles), len(inputs), len(outputs)) == (len(cells[2]), len(cells[1]), len(cells[3]))
        and all(tile in slow_tiles(fabric) for tile in tiles) and all(pad in pads for pad in inputs + outputs)
        and all(len(set(rows)) == len(rows) for rows in (tiles, inputs, outputs))
    )


def slow_is_good(fabric, cells, places):
    """Every exchange and every move, one by one."""
    least = slow_length(cells, places)
    tiles = places[1]
    for one in slow_tiles(fabric):
        for other in slow_tiles(fabric):
            swapped = tuple(other if tile == one else one if tile == other else tile for tile in tiles)
            if slow_length(cells, places[:1] + (swapped,) + places[2:]) < least:
                return False
    return True


def slow_loads(cells, places):
    """The sides that combs use, with how many nets use each."""
    loads = {}
    for ref in slow_nets(cells):
        sides = set()
        for sink in slow_sinks(cells, places, ref):
            x, y = slow_source(places, ref)
            while x < sink[0]:
                sides.add((x, y, 1))
                x += 1
            while x > sink[0]:
                sides.add((x, y, 3))
                x -= 1
            while y < sink[1]:
                sides.add((x, y, 2))
                y += 1
            while y > sink[1]:
                sides.add((x, y, 0))
                y -= 1
        for side in sides:
            loads[side] = loads.get(side, 0) + 1
    return tuple(sorted(loads.items()))


AWAY = {0: (0, -1), 1: (1, 0), 2: (0, 1), 3: (-1, 0)}


def slow_entering(fabric, x, y, side, track):
    there = (x + AWAY[side][0], y + AWAY[side][1])
    if there in slow_tiles(fabric):
        return ("wire", there + ((side + 2) % 4, track))
    return ("pad", (x, y, side, track))


def slow_trace(fabric, cells, places, turns, x, y, selector):
    """The ref at which a tracing ends, None if it is not taken, and the wires that it meets."""
    met = []
    while True:
        if selector in (1, 2):
            if (x, y) not in places[1]:
                return None, met
            cell = places[1].index((x, y))
            if selector == 2 and cells[2][cell][2] is None:
                return None, met
            return ("out" if selector == 1 else "reg", cell), met
        if not 3 <= selector <= 2 + 4 * fabric[3]:
            return None, met
        word, place = slow_entering(fabric, x, y, *divmod(selector - 3, fabric[3]))
        if word == "pad":
            return (("in", places[2].index(place)), met) if place in places[2] else (None, met)
        if place not in dict(turns) or place in met:
            return None, met
        met.append(place)
        x, y = place[:2]
        selector = dict(turns)[place]


def slow_judge_routes(fabric, cells, places, routes):
    """The words of the document, one by one."""
    word, pins, turns = routes
    wires = [wire for wire, _ in turns]
    if word != "routes" or len(pins) != len(cells[2]) or any(len(row) != fabric[4] for row in pins):
        return False
    if wires != sorted(set(wires)) or any(selector == 0 for _, selector in turns):
        return False
    for x, y, side, track in wires:
        if (x, y) not in slow_tiles(fabric) or side not in range(4) or track not in range(fabric[3]):
            return False
    met = []
    for (x, y), (leaves, _, _), row in zip(places[1], cells[2], pins):
        for pin, selector in enumerate(row):
            if pin >= len(leaves):
                if selector != 0:
                    return False
                continue
            ref, way = slow_trace(fabric, cells, places, turns, x, y, selector)
            if ref != leaves[pin]:
                return False
            met += way
    for pad, (_, told) in zip(places[3], cells[3]):
        if pad not in wires:
            return False
        ref, way = slow_trace(fabric, cells, places, turns, pad[0], pad[1], dict(turns)[pad])
        if ref != told:
            return False
        met += way + [pad]
    return all(wire in met for wire in wires)


def source_selector(fabric, places, ref):
    """The selector of a source in its own tile."""
    if ref[0] == "in":
        return 3 + places[2][ref[1]][2] * fabric[3] + places[2][ref[1]][3]
    return 1 if ref[0] == "out" else 2


def random_way(source, fabric, start, end, used):
    """Free wires from tile to tile, found in any order, None if there are none."""
    ways = {start: []}
    todo = [start]
    while todo and end not in ways:
        tile = todo.pop(source.randrange(len(todo)))
        for side in source.sample(range(4), 4):
            there = (tile[0] + AWAY[side][0], tile[1] + AWAY[side][1])
            free = [track for track in range(fabric[3]) if tile + (side, track) not in used]
            if there in slow_tiles(fabric) and there not in ways and free:
                ways[there] = ways[tile] + [tile + (side, source.choice(free))]
                todo.append(there)
    return ways.get(end)


def random_routes(source, fabric, cells, places):
    """A routing that is taken, with detours and several wires of one net on a side; None if none is found."""
    turns = {}
    known = {ref: [(slow_source(places, ref), source_selector(fabric, places, ref))] for ref in slow_nets(cells)}
    sinks = [(ref, at, pin) for at, (leaves, _, _) in enumerate(cells[2]) for pin, ref in enumerate(leaves)]
    sinks += [(ref, None, pad) for pad, (_, ref) in zip(places[3], cells[3])]
    pins = [[0] * fabric[4] for _ in cells[2]]
    source.shuffle(sinks)
    for ref, at, last in sinks:
        end = last[:2] if at is None else places[1][at]
        tile, selector = source.choice(known[ref])
        way = random_way(source, fabric, tile, end, turns)
        if way is None:
            return None
        for x, y, side, track in way:
            turns[(x, y, side, track)] = selector
            selector = 3 + (side + 2) % 4 * fabric[3] + track
            tile = (x + AWAY[side][0], y + AWAY[side][1])
            known[ref].append((tile, selector))
        if at is None:
            turns[last] = selector
        else:
            pins[at][last] = selector
    return ("routes", tuple(tuple(row) for row in pins), tuple(sorted(turns.items())))
