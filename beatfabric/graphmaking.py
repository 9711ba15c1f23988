"""Graphs in the making."""
from beatfabric.graphs import moved, reached_nodes


class Nodes:
    """The nodes of a graph, equal ones made once."""

    def __init__(self):
        self.rows = []
        self.places = {}

    def made(self, node):
        """The number of a node."""
        if node not in self.places:
            self.places[node] = len(self.rows)
            self.rows.append(node)
        return self.places[node]

    def width(self, at):
        """The width of the node with that number."""
        return self.rows[at][1]

    def const(self, width, word):
        """The number of the node of a const."""
        return self.made(("const", width, word))

    def pick(self, condition, left, right):
        """The number of a node that has the word of left if the condition is 1, otherwise that of right."""
        if left == right:
            return left
        return self.made(("pick", self.width(left), condition, left, right))


def lean_graph(graph):
    """A graph of different nodes without those that are not reached."""
    _, inputs, nodes, regs, mems, outputs, claims = graph
    places = {}
    kept = []
    for at, reached in enumerate(reached_nodes(graph)):
        if reached:
            places[at] = len(kept)
            kept.append(moved(nodes[at], places))
    return (
        "graph",
        inputs,
        tuple(kept),
        tuple([(name, width, start, places[follow]) for name, width, start, follow in regs]),
        tuple([(name, width, size, moved_writes(writes, places)) for name, width, size, writes in mems]),
        tuple([(name, places[node]) for name, node in outputs]),
        tuple([(name, places[node]) for name, node in claims]),
    )


def moved_writes(writes, places):
    """The writes of a memory with other numbers of nodes, as places tells."""
    return tuple([(places[condition], places[address], places[word]) for condition, address, word in writes])
