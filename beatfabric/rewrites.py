"""Finds rewritings of a tidy net that take ands away."""
from beatfabric.nets import ends_of, first_and, operand_nodes
from beatfabric.rewriting import rewritten

# The told recipes, pairs of steps and a result, by the tables that they make over two leaves.
RECIPES = {
    0: (((), 0),),
    15: (((), 1),),
    10: (((), 2),),
    5: (((), 3),),
    12: (((), 4),),
    3: (((), 5),),
    8: ((((2, 4),), 6),),
    7: ((((2, 4),), 7),),
    2: ((((2, 5),), 6),),
    13: ((((2, 5),), 7),),
    4: ((((3, 4),), 6),),
    11: ((((3, 4),), 7),),
    1: ((((3, 5),), 6),),
    14: ((((3, 5),), 7),),
    6: ((((2, 5), (3, 4), (7, 9)), 11), (((2, 4), (3, 5), (7, 9)), 10)),
    9: ((((2, 5), (3, 4), (7, 9)), 10), (((2, 4), (3, 5), (7, 9)), 11)),
}
FULL = 15
LEAF_TABLES = (10, 12)


def uses_of(net):
    """For each node how many places it has as a literal in an and, an output, a claim or a next."""
    uses = [0] * (first_and(net) + len(net[3]))
    for left, right in net[3]:
        uses[left // 2] += 1
        uses[right // 2] += 1
    for literal in ends_of(net):
        uses[literal // 2] += 1
    return uses


class Search:
    """A tidy net that is searched for rewritings; cuts has the pairs of leaves of its nodes with their tables.

    In a tidy net no and has a cut of one node: of its two literals' nodes, which differ, each would be that node or
    have that cut. So all cuts of two nodes come from those of the operands, and both nodes are met.
    """

    def __init__(self, net, cuts):
        self.net = net
        self.first = first_and(net)
        self.cuts = cuts
        self.uses = uses_of(net)
        self.places = {pair: self.first + at for at, pair in enumerate(net[3])}

    def literal_table(self, literal, pair):
        """The table of a literal over a pair of leaves, None if they are no cut of its node."""
        node = literal // 2
        if node in pair:
            table = LEAF_TABLES[pair.index(node)]
        elif pair in self.cuts[node]:
            table = self.cuts[node][pair]
        else:
            return None
        return table ^ FULL if literal & 1 else table

    def cuts_of(self, root):
        """The pairs of leaves of an and with their tables, when those of the nodes ahead of it are known."""
        left, right = self.net[3][root - self.first]
        pairs = [(min(left // 2, right // 2), max(left // 2, right // 2))]
        pairs.extend(self.cuts[left // 2])
        pairs.extend([pair for pair in self.cuts[right // 2] if left // 2 in pair])
        cuts = {}
        for pair in pairs:
            one = self.literal_table(left, pair)
            other = self.literal_table(right, pair)
            if one is not None and other is not None:
                cuts[pair] = one & other
        return cuts

    def lost_ands(self, root, kept):
        """How many ands are not used any more, the root not counted, if it is dropped but some nodes are kept."""
        lost = {}
        many = 0
        todo = operand_nodes(self.net, root)
        while todo:
            node = todo.pop()
            if node < self.first or node in kept:
                continue
            lost[node] = lost.get(node, 0) + 1
            if lost[node] == self.uses[node]:
                many += 1
                todo.extend(operand_nodes(self.net, node))
        return many

    def step_node(self, root, local, step):
        """The node of the net that is a step already, None if there is none but the root."""
        one, other = [local[literal // 2] for literal in step]
        if one is None or other is None:
            return None
        left = 2 * one + (step[0] & 1)
        right = 2 * other + (step[1] & 1)
        node = self.places.get((min(left, right), max(left, right)))
        return None if node == root else node

    def is_gain(self, root, pair, steps):
        """Whether a recipe for a root leaves fewer ands.

        If a step makes a new and, so does the last one, and what used the root then is like nothing else in the net.
        So besides the new ands, only those count that are not used any more. Otherwise at least the root is saved.
        """
        local = [0, pair[0], pair[1]]
        for step in steps:
            local.append(self.step_node(root, local, step))
        fresh = len([node for node in local if node is None])
        if fresh == 0:
            return True
        kept = {node: True for node in local if node is not None}
        return 1 + self.lost_ands(root, kept) > fresh

    def rewriting(self, root):
        """A rewriting of a root that leaves fewer ands, None if there is none."""
        for pair, table in self.cuts[root].items():
            for steps, result in RECIPES[table]:
                if self.is_gain(root, pair, steps):
                    return (root, pair, steps, result)
        return None

    def found(self, start):
        """The first rewriting that leaves fewer ands, of roots from start on; None if there is none."""
        for root in range(start, self.first + len(self.net[3])):
            if root == len(self.cuts):
                self.cuts.append(self.cuts_of(root))
            paper = self.rewriting(root)
            if paper is not None:
                return paper
        return None


def common_ands(net, other):
    """How many ands two nets with the same inputs and registers have in common, from the first one on."""
    many = 0
    for pair, mate in zip(net[3], other[3]):
        if pair != mate:
            return many
        many += 1
    return many


def fully_rewritten(net):
    """Rewritings, each for the net that is rewritten so far, and the net behind them all.

    For that one no told recipe takes an and away.
    """
    papers = []
    first = first_and(net)
    search = Search(net, [{} for _ in range(first)])
    start = first
    while True:
        paper = search.found(start)
        if paper is None and start == first:
            return tuple(papers), search.net
        if paper is None:
            # Roots ahead of the last change can save ands by it.
            start = first
            continue
        papers.append(paper)
        other = rewritten(search.net, paper)
        # The cuts of the first ands stay, for they depend on these ands alone.
        search = Search(other, search.cuts[:first + common_ands(search.net, other)])
        start = len(search.cuts)


def rewrites(net):
    """Rewritings, each for the net that is rewritten so far; behind them no told recipe takes an and away."""
    papers, _ = fully_rewritten(net)
    return papers
