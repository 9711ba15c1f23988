"""Finds covers of least depth."""
from beatfabric.covers import is_source
from beatfabric.levels import levelled
from beatfabric.nets import ends_of, first_and, operand_nodes


class Covering:
    """A cover of a tidy net in the making; entries has the literals that are needed, and their leaves when known."""

    def __init__(self, net, k):
        self.net = net
        self.k = k
        self.cuts = levelled(net, k).cuts
        self.entries = {}
        self.uses = [0] * (first_and(net) + len(net[3]))
        for left, right in net[3]:
            self.uses[left // 2] += 1
            self.uses[right // 2] += 1

    def need(self, literal):
        """Notes that there must be an entry for a literal, if it needs one."""
        if not is_source(self.net, literal) and literal not in self.entries:
            self.entries[literal] = ()

    def leaf_literal(self, node):
        """The literal of a node that serves as a leaf; of an and one that is needed anyway, if there is one."""
        inverted = 2 * node + 1
        if is_source(self.net, 2 * node) or 2 * node in self.entries or inverted not in self.entries:
            return 2 * node
        return inverted

    def is_needed(self, node):
        """Whether there is an entry for one of the literals of a node."""
        return 2 * node in self.entries or 2 * node + 1 in self.entries

    def deeper(self, leaves):
        """The leaves with one of them replaced by its operands, None if no such step saves a table."""
        for leaf in reversed(leaves):
            operands = operand_nodes(self.net, leaf)
            if operands and not self.is_needed(leaf):
                other = sorted(set([node for node in leaves if node != leaf] + operands))
                if len(other) <= len(leaves) or (len(other) <= self.k and self.uses[leaf] == 1):
                    return other
        return None

    def leaves_of(self, literal):
        """The leaves of the entry of a literal."""
        node = literal // 2
        if node == 0:
            return ()
        if node < first_and(self.net):
            return (2 * node,)
        leaves = self.cuts[node]
        other = self.deeper(leaves)
        while other is not None:
            leaves = other
            other = self.deeper(leaves)
        return tuple([self.leaf_literal(leaf) for leaf in leaves])


def cover_of(net, k):
    """A cover of a tidy net in which each end has its least level."""
    covering = Covering(net, k)
    for literal in ends_of(net):
        covering.need(literal)
    for literal in reversed(range(2 * len(covering.uses))):
        if literal in covering.entries:
            leaves = covering.leaves_of(literal)
            covering.entries[literal] = leaves
            for leaf in leaves:
                covering.need(leaf)
    return tuple(sorted(covering.entries.items()))
