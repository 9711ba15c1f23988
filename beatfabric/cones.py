"""Cones of nodes, and their functions as tables.

A table over some variables is an integer: its bit with number b is that of the function when variable j has bit j of b.
"""
from beatfabric.nets import first_and, operand_nodes


def cone_of(net, nodes, leaves):
    """The nodes that are met by going from some nodes to operands, never beyond a leaf, ascending.

    leaves is a dict with the leaves as its keys.
    """
    met = {}
    todo = list(nodes)
    while todo:
        node = todo.pop()
        if node not in met:
            met[node] = True
            if node not in leaves:
                todo.extend(operand_nodes(net, node))
    return sorted(met)


def is_cut(net, node, leaves):
    """Whether going from a node to operands, never beyond a leaf, meets no input and no register but leaves."""
    first = first_and(net)
    return all([met == 0 or met >= first or met in leaves for met in cone_of(net, [node], leaves)])


def full_table(many):
    """The table over so many variables that is always 1."""
    return (1 << (1 << many)) - 1


def variable_table(at, many):
    """The table of a variable over so many variables."""
    full = full_table(many)
    return full ^ (full // ((1 << (1 << at)) + 1))


def literal_table(tables, literal, full):
    """The table of a literal, given those of the nodes."""
    return tables[literal // 2] ^ full if literal & 1 else tables[literal // 2]


def cone_tables(net, nodes, leaves, full):
    """The tables of all nodes that are met from some nodes; leaves is a dict of the tables of a cut."""
    first = first_and(net)
    tables = {0: 0}
    tables.update(leaves)
    for node in cone_of(net, nodes, leaves):
        if node not in tables:
            left, right = net[3][node - first]
            tables[node] = literal_table(tables, left, full) & literal_table(tables, right, full)
    return tables


def leaf_tables(nodes):
    """The tables of free nodes, each over all of them, as a dict."""
    return {node: variable_table(at, len(nodes)) for at, node in enumerate(nodes)}
