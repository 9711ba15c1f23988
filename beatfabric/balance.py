"""Balances the trees of ands of a tidy net."""
from heapq import heapify, heappop, heappush

from beatfabric.nets import ends_of, first_and
from beatfabric.tidy import Ands, moved_literal, with_ends, without_unreached


def inner_ands(net):
    """For each node whether it is an inner and: its one use is a plain literal in an and."""
    first = first_and(net)
    uses = [0] * (first + len(net[3]))
    barred = [node < first for node in range(len(uses))]
    for pair in net[3]:
        for literal in pair:
            uses[literal // 2] += 1
            if literal & 1:
                barred[literal // 2] = True
    for literal in ends_of(net):
        barred[literal // 2] = True
    return [many == 1 and not bar for many, bar in zip(uses, barred)]


def leaves_of(net, inner, head):
    """The different leaves of a head, ascending."""
    first = first_and(net)
    leaves = {}
    todo = list(net[3][head - first])
    while todo:
        literal = todo.pop()
        if inner[literal // 2]:
            todo.extend(net[3][literal // 2 - first])
        else:
            leaves[literal] = True
    return sorted(leaves)


def leaves_of_heads(net):
    """The leaves of each head, by its node, ascending."""
    first = first_and(net)
    inner = inner_ands(net)
    return {head: leaves_of(net, inner, head) for head in range(first, len(inner)) if not inner[head]}


def tree_height(heights):
    """The least integer h such that the sum of 2^(height) over all heights is at most 2^h."""
    total = sum([1 << height for height in heights])
    return (total - 1).bit_length()


def have_inverse(literals):
    """Whether a literal and its inverse are among ascending literals."""
    return any([low ^ 1 == high for low, high in zip(literals, literals[1:])])


def head_height(least, leaves):
    """The least height of a head, given those of the nodes ahead of it."""
    if have_inverse(leaves):
        return 0
    return tree_height([least[literal // 2] for literal in leaves])


def least_heights(net):
    """For each node of a tidy net its least height, None for inner ands."""
    leaves = leaves_of_heads(net)
    first = first_and(net)
    least = [0] * first
    for node in range(first, first + len(net[3])):
        least.append(head_height(least, leaves[node]) if node in leaves else None)
    return tuple(least)


class Balancing:
    """A balanced net in the making; heights has the heights of its nodes."""

    def __init__(self, net):
        self.first = first_and(net)
        self.ands = Ands(self.first)
        self.heights = [0] * self.first

    def paired(self, one, other):
        """The literal that is 1 if both literals are."""
        literal = self.ands.both(one, other)
        if literal // 2 == len(self.heights):
            self.heights.append(1 + max(self.heights[one // 2], self.heights[other // 2]))
        return literal

    def tree(self, literals):
        """The literal that is 1 if all literals are; lowest ones are paired first."""
        different = sorted(set(literals))
        if different[0] == 0 or have_inverse(different):
            return 0
        queue = [(self.heights[literal // 2], literal) for literal in different]
        heapify(queue)
        while len(queue) > 1:
            _, one = heappop(queue)
            _, other = heappop(queue)
            literal = self.paired(one, other)
            heappush(queue, (self.heights[literal // 2], literal))
        return queue[0][1]


def balanced(net):
    """The balanced net of a tidy net."""
    first = first_and(net)
    leaves = leaves_of_heads(net)
    balancing = Balancing(net)
    literals = [2 * node for node in range(first)]
    for node in range(first, first + len(net[3])):
        if node in leaves:
            literals.append(balancing.tree([moved_literal(literals, leaf) for leaf in leaves[node]]))
        else:
            # An inner and stands only in the tree of its head, so that nothing reads what it becomes.
            literals.append(0)
    return without_unreached(with_ends(net, net[2], balancing.ands.pairs, literals))
