"""Bar papers for levels: the judge and the finder."""
from beatfabric.flows import Flow
from beatfabric.levels import levelled
from beatfabric.nets import ands_of, first_and, operand_nodes


def is_path(net, node, path):
    """Whether a path leads from an input or register to an and."""
    if not path or path[-1] != node or not 0 < path[0] < first_and(net):
        return False
    for low, high in zip(path, path[1:]):
        if not low < high <= node or low not in operand_nodes(net, high):
            return False
    return True


def are_apart(rows, paths, bound):
    """Whether no two paths share a node whose level is at most a bound, for the levels of all nodes."""
    met = {}
    for path in paths:
        for node in path:
            if rows[node] <= bound and node in met:
                return False
            met[node] = True
    return True


def is_part(net, k, rows, node, part):
    """Whether the part of a bar paper for an and is right, for the levels of all nodes."""
    if rows[node] == 1:
        return part == ()
    if len(part) != k + 1 or not all([is_path(net, node, path) for path in part]):
        return False
    return are_apart(rows, part, rows[node] - 2)


def judge_level_bars(net, k, levels, bars):
    """Whether levels of all ands are at least 1, and a bar paper is right for them."""
    if len(levels) != len(net[3]) or len(bars) != len(net[3]) or not all([level >= 1 for level in levels]):
        return False
    rows = [0] * first_and(net) + list(levels)
    return all([is_part(net, k, rows, first_and(net) + at, part) for at, part in enumerate(bars)])


def level_bars(net, k):
    """A bar paper for the least levels of a tidy net."""
    rows = levelled(net, k).rows
    bars = []
    for node, _, _ in ands_of(net):
        if rows[node] == 1:
            bars.append(())
        else:
            flow = Flow(net, rows, node, rows[node] - 2)
            flow.grow_to(k + 1)
            bars.append(flow.paths())
    return tuple(bars)
