"""The least levels of ands in covers."""
from beatfabric.flows import Flow
from beatfabric.nets import ands_of, first_and


def node_levels(net, k):
    """The least levels of all nodes of a tidy net; inputs and registers have 0."""
    rows = [0] * first_and(net)
    for node, left, right in ands_of(net):
        below = max(rows[left // 2], rows[right // 2])
        # An and has at least the levels of its operands, and at most one more.
        if below == 0 or Flow(net, rows, node, below - 1).grow_to(k + 1):
            rows.append(below + 1)
        else:
            rows.append(below)
    return rows


def levels(net, k):
    """The least levels of all ands of a tidy net."""
    return tuple(node_levels(net, k)[first_and(net):])
