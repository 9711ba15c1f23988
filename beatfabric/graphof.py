"""Makes the graph of a flat design."""
from beatfabric.graphmaking import Nodes, lean_graph
from beatfabric.ordering import in_order
from beatfabric.plans import Plan


class GraphMaker:
    """The nodes that stand for the names of a flat design, and those for its memories."""

    def __init__(self, flat):
        _, inputs, _, _, regs, mems, _, _ = flat
        self.nodes = Nodes()
        self.named = {}
        self.memories = {}
        for at, (name, width) in enumerate(inputs):
            self.named[name] = self.nodes.made(("input", width, at))
        for at, reg in enumerate(regs):
            self.named[reg[0]] = self.nodes.made(("reg", reg[1], at))
        for at, mem in enumerate(mems):
            self.memories[mem[0]] = at

    def node_of(self, expr):
        """The node of a sized expr."""
        if expr[0] == "word":
            return self.nodes.const(expr[1], expr[2])
        if expr[0] == "name":
            return self.named[expr[2]]
        if expr[0] == "read":
            return self.nodes.made(("load", expr[1], self.memories[expr[2]], self.node_of(expr[3])))
        op, width, low, operands = expr
        node = [op, width]
        for operand in operands:
            node.append(self.node_of(operand))
        if op == "bits":
            node.append(low)
        return self.nodes.made(tuple(node))

    def both(self, left, right):
        """The node that is 1 if both conditions are; None is a condition that is always 1."""
        if left is None:
            return right
        return self.nodes.made(("and", 1, left, right))

    def opposite(self, condition):
        """The node that is 1 if the condition is 0."""
        return self.nodes.made(("not", 1, condition))

    def among(self, node, numbers):
        """The node that is 1 if a node has one of the words."""
        found = None
        for number in numbers:
            same = self.nodes.made(("eq", 1, node, self.nodes.const(self.nodes.width(node), number)))
            found = same if found is None else self.nodes.made(("or", 1, found, same))
        return found

    def ways(self, statement):
        """Pairs (condition, part) of an `if` or `case`; at most one condition holds.

        The part with the condition None, which stands last, is gone through if no condition holds.
        """
        word, head, inner, last = statement
        if word == "if":
            return [(self.node_of(head), inner), (None, last)]
        node = self.node_of(head)
        ways = [(self.among(node, numbers), part) for numbers, part in inner]
        if sum([len(numbers) for numbers, _ in inner]) < 1 << head[1]:
            ways.append((None, last))
        return ways

    def set_node(self, body, kept):
        """The node of the last `set` of a body that is gone through, kept if there is none.

        None stands for a word that does not count: a later `set` comes on every way.
        """
        node = kept
        for statement in body:
            if statement[0] == "set":
                node = self.node_of(statement[2])
            else:
                node = self.chosen(self.ways(statement), node)
        return node

    def chosen(self, ways, kept):
        """The node of the last `set` in the way that is gone through.

        At most one condition holds, so ways that end as the last one need no pick.
        """
        ends = [self.set_node(part, kept) for _, part in ways]
        base = None
        node = None
        for at in reversed(range(len(ways))):
            if base is None:
                base = ends[at]
                node = base
            elif ends[at] is not None and ends[at] != base:
                node = self.nodes.pick(ways[at][0], ends[at], node)
        return node

    def write_nodes(self, body, around):
        """The writes of a body that writes one memory, under a condition around it."""
        writes = []
        for statement in body:
            if statement[0] == "write":
                condition = self.nodes.const(1, 1) if around is None else around
                address = self.node_of(statement[2])
                writes.append((condition, address, self.node_of(statement[3])))
            else:
                writes.extend(self.way_writes(self.ways(statement), around))
        return writes

    def way_writes(self, ways, around):
        """The writes in the ways of an `if` or `case`."""
        writes = []
        rest = around
        for condition, part in ways:
            if condition is None:
                writes.extend(self.write_nodes(part, rest))
            else:
                writes.extend(self.write_nodes(part, self.both(around, condition)))
                rest = self.both(rest, self.opposite(condition))
        return writes

    def next_of(self, row):
        """The node of the next of a register."""
        name, start, (when, reset), body = row
        own = self.named[name]
        node = self.set_node(body, own)
        if when is not None:
            node = self.nodes.pick(self.node_of(when), node, own)
        if reset is not None:
            node = self.nodes.pick(self.node_of(reset), self.nodes.const(self.nodes.width(own), start), node)
        return node


def graph_of(flat):
    """The graph of a flat design."""
    _, inputs, outputs, _, regs, mems, _, claims = flat
    plan = Plan(flat)
    maker = GraphMaker(flat)
    for name in in_order(list(plan.bodies), plan.links):
        maker.named[name] = maker.set_node(plan.bodies[name], None)
    shown = tuple([(name, maker.named[name]) for name, _ in outputs])
    claimed = tuple([(name, maker.node_of(expr)) for (name, _), expr in zip(claims, plan.claims)])
    states = []
    for (name, width, start, _, _), row in zip(regs, plan.regs):
        states.append((name, width, start, maker.next_of(row)))
    stores = []
    for (name, width, size), (_, _, body) in zip(mems, plan.mems):
        stores.append((name, width, size, tuple(maker.write_nodes(body, None))))
    return lean_graph(("graph", inputs, tuple(maker.nodes.rows), tuple(states), tuple(stores), shown, claimed))
