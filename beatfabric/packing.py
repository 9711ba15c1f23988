"""Packings of tables and registers into cells: the judge, the finder, and the packed cells."""
from beatfabric.numbering import is_thing


def is_pair(tables, pair):
    """Whether a table and a register may stand together in a pair."""
    _, inputs, regs, _, _ = tables
    table, reg = pair
    if table is None or reg is None:
        return table != reg
    return is_thing(reg, len(regs)) and regs[reg][2] == len(inputs) + len(regs) + table


def judge_packing(tables, packing):
    """Whether a packing of tables is right."""
    if not all([is_pair(tables, pair) for pair in packing]):
        return False
    packed_tables = sorted([table for table, _ in packing if table is not None])
    packed_regs = sorted([reg for _, reg in packing if reg is not None])
    return packed_tables == list(range(len(tables[3]))) and packed_regs == list(range(len(tables[2])))


def packing_of(tables):
    """A packing with the fewest cells: each table has the first register whose next it is."""
    _, inputs, regs, rows, _ = tables
    ahead = len(inputs) + len(regs)
    mates = {}
    for reg, (_, _, follow) in enumerate(regs):
        if follow >= ahead:
            mates.setdefault(follow - ahead, reg)
    pairs = [(table, mates.get(table)) for table in range(len(rows))]
    for reg, (_, _, follow) in enumerate(regs):
        if mates.get(follow - ahead) != reg:
            pairs.append((None, reg))
    return tuple(pairs)


def packed_cell(tables, pair, refs):
    """The cell of a pair, given what the refs of the tables become."""
    table, reg = pair
    start = None if reg is None else tables[2][reg][1]
    if table is None:
        return ((refs[tables[2][reg][2]],), (0, 1), start)
    leaves, bits = tables[3][table]
    return (tuple([refs[leaf] for leaf in leaves]), bits, start)


def cells_of(tables, packing):
    """The cells of tables and a taken packing."""
    _, inputs, regs, rows, outputs = tables
    table_cells = {}
    reg_cells = {}
    for cell, (table, reg) in enumerate(packing):
        table_cells[table] = cell
        reg_cells[reg] = cell
    refs = [("in", at) for at in range(len(inputs))]
    refs.extend([("reg", reg_cells[reg]) for reg in range(len(regs))])
    refs.extend([("out", table_cells[table]) for table in range(len(rows))])
    cells = tuple([packed_cell(tables, pair, refs) for pair in packing])
    return ("cells", inputs, cells, tuple([(name, refs[ref]) for name, ref in outputs]))
