"""The least levels of ands in covers."""
from beatfabric.flows import Flow
from beatfabric.nets import ands_of, first_and


class Levels:
    """The least levels of the nodes of a tidy net, as far as they are added; rows has them for all nodes.

    cuts has for each and the nodes of leaves, ascending, by which one of its literals has this level as an entry.
    """

    def __init__(self, net, k):
        self.net = net
        self.k = k
        self.rows = [0] * first_and(net)
        self.cuts = {}

    def lower_cut(self, node, below):
        """Nodes of levels less than told that all paths to a node go through."""
        return self.cuts[node] if self.rows[node] == below else [node]

    def found_cut(self, node, operands, below):
        """At most k nodes of levels less than told that all paths to an and go through, None if there are none."""
        leaves = [leaf for operand in operands for leaf in self.lower_cut(operand, below)]
        joined = sorted(set(leaves))
        if len(joined) <= self.k:
            return joined
        flow = Flow(self.net, self.rows, node, below - 1)
        return None if flow.grow_to(self.k + 1) else flow.cut()

    def add_and(self, node, operands):
        """Adds an and; it has at least the levels of its operands, and at most one more."""
        below = max([self.rows[operand] for operand in operands])
        cut = self.found_cut(node, operands, below) if below > 0 else None
        self.rows.append(below + 1 if cut is None else below)
        self.cuts[node] = sorted(operands) if cut is None else cut


def levelled(net, k):
    """The least levels of all nodes of a tidy net, and the cuts by which ands have them."""
    found = Levels(net, k)
    for node, left, right in ands_of(net):
        found.add_and(node, [left // 2, right // 2])
    return found


def levels(net, k):
    """The least levels of all ands of a tidy net."""
    return tuple(levelled(net, k).rows[first_and(net):])
