"""Finds the registers of a net that always contain the bit of 0 or of another register."""
from beatfabric.bonds import bond_clauses, next_literal
from beatfabric.cones import full_table, literal_table, variable_table
from beatfabric.refuting import refutation

MOST_SOURCES = 10


def next_tables(net, groups):
    """For each register the table of the bit that tells whether its next differs from its start.

    In a group such bits of all its registers agree; in the group 0 they are 0. The tables are over the inputs and
    then the other groups.
    """
    _, inputs, regs, ands, _, _ = net
    many = len(inputs) + max(groups, default=0)
    full = full_table(many)
    tables = [0] + [variable_table(at, many) for at in range(len(inputs))]
    for (_, start, _), group in zip(regs, groups):
        table = variable_table(len(inputs) + group - 1, many) if group > 0 else 0
        tables.append(table ^ full if start == 1 else table)
    for left, right in ands:
        tables.append(literal_table(tables, left, full) & literal_table(tables, right, full))
    return [literal_table(tables, follow ^ start, full) for _, start, follow in regs]


def parted(groups, tables):
    """The groups, numbered from 0 on as they appear, of which each is in one old group and has one table."""
    numbers = {(0, 0): 0}
    for row in zip(groups, tables):
        numbers.setdefault(row, len(numbers))
    return [numbers[row] for row in zip(groups, tables)]


def tied_groups(net):
    """For each register its group by the greatest set of ties that holds; those in the group 0 are tied to 0."""
    groups = []
    parts = [0] * len(net[2])
    while parts != groups:
        groups = parts
        parts = parted(groups, next_tables(net, groups))
    return groups


def tied_pairs(net):
    """Pairs of a register and the literal of the least node, less than its own, to which it is tied.

    There are none if the net has too many inputs and registers.
    """
    regs = net[2]
    ahead = 1 + len(net[1])
    if ahead + len(regs) > 1 + MOST_SOURCES:
        return []
    leaders = {0: 0}
    pairs = []
    for at, group in enumerate(tied_groups(net)):
        plain = 2 * (ahead + at) + regs[at][1]
        if group in leaders:
            pairs.append((at, leaders[group] ^ regs[at][1]))
        else:
            leaders[group] = plain
    return pairs


def bonds_of(net):
    """The finder's bond paper of a net."""
    pairs = tied_pairs(net)
    clauses = bond_clauses(net, pairs)
    paper = []
    for reg, literal in pairs:
        own = net[2][reg][2]
        follow = next_literal(net, literal)
        _, differ_steps = refutation(net, clauses, (own, follow ^ 1))
        _, other_steps = refutation(net, clauses, (own ^ 1, follow))
        paper.append((reg, literal, differ_steps, other_steps))
    return tuple(paper)
