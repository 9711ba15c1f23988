"""Other codes for what registers contain: the judge, the recoded graph and the finder."""
from beatfabric.graphmaking import Nodes, lean_graph
from beatfabric.graphs import is_width, moved
from beatfabric.numbering import all_different, are_ascending, is_thing
from beatfabric.words import MOST_WIDTH, room_width


def picked_nodes(nodes, start):
    """All nodes that are reached by going from a pick to its two arms, ascending."""
    reached = {}
    todo = [start]
    while todo:
        at = todo.pop()
        if at not in reached:
            reached[at] = True
            if nodes[at][0] == "pick":
                todo.extend(nodes[at][3:])
    return sorted(reached)


def picked_words(graph, reg):
    """The words of the consts that the next of a register picks from, ascending.

    None if it picks from anything else, but for the register itself.
    """
    _, _, nodes, regs, _, _, _ = graph
    words = {}
    for at in picked_nodes(nodes, regs[reg][3]):
        node = nodes[at]
        if node[0] == "const":
            words[node[2]] = True
        elif node[0] != "pick" and node != ("reg", regs[reg][1], reg):
            return None
    return sorted(words)


def are_words(words, width):
    """Whether words fit a width and are different."""
    return all_different(words) and all([0 <= word < 1 << width for word in words])


def judge_entry(graph, entry):
    """Whether an entry of a code paper is right."""
    reg, width, codes = entry
    regs = graph[3]
    if not is_thing(reg, len(regs)) or not is_width(width):
        return False
    olds = [old for old, _ in codes]
    if not are_ascending(olds) or not are_words(olds, regs[reg][1]):
        return False
    if not are_words([new for _, new in codes], width) or regs[reg][2] not in olds:
        return False
    words = picked_words(graph, reg)
    return words is not None and all([word in olds for word in words])


def judge_codes(graph, paper):
    """Whether a code paper is right for a graph."""
    if not are_ascending([reg for reg, _, _ in paper]):
        return False
    return all([judge_entry(graph, entry) for entry in paper])


def telling_bit(codes, old):
    """The least bit that the new word of an old one has and no other new word, None if there is none."""
    for bit in range(MOST_WIDTH):
        having = [other for other in codes if (codes[other] >> bit) & 1 == 1]
        if having == [old]:
            return bit
    return None


class Recoding:
    """The recoded graph in the making; places has the new node of each node of the graph."""

    def __init__(self, graph, paper):
        self.graph = graph
        self.nodes = Nodes()
        self.places = []
        # The new width and the codes, as a dict, of each register whose words change.
        self.entries = {}
        for reg, width, codes in paper:
            if width != graph[3][reg][1] or any([old != new for old, new in codes]):
                self.entries[reg] = (width, dict(codes))

    def code_node(self, reg):
        """The node of a recoded register itself."""
        width, _ = self.entries[reg]
        return self.nodes.made(("reg", width, reg))

    def code_const(self, reg, old):
        """The const of the new word of an old one."""
        width, codes = self.entries[reg]
        return self.nodes.const(width, codes[old])

    def same(self, reg, old):
        """The node that is 1 if a recoded register stands for an old word."""
        width, codes = self.entries[reg]
        if old not in codes:
            return self.nodes.const(1, 0)
        own = self.code_node(reg)
        bit = telling_bit(codes, old)
        if bit is None:
            return self.nodes.made(("eq", 1, own, self.code_const(reg, old)))
        return own if width == 1 else self.nodes.made(("bits", 1, own, bit))

    def decoded(self, reg):
        """The node that has the old word of a recoded register."""
        _, codes = self.entries[reg]
        width = self.graph[3][reg][1]
        olds = sorted(codes)
        node = self.nodes.const(width, olds[-1])
        for old in reversed(olds[:-1]):
            node = self.nodes.pick(self.same(reg, old), self.nodes.const(width, old), node)
        return node

    def compared(self, node):
        """The recoded register and the word that a node compares, None if it is no such node."""
        if node[0] not in ("eq", "ne"):
            return None
        for at, other in ((node[2], node[3]), (node[3], node[2])):
            first = self.graph[2][at]
            second = self.graph[2][other]
            if first[0] == "reg" and first[2] in self.entries and second[0] == "const":
                return (first[2], second[2])
        return None

    def new_node(self, node):
        """The new node of a node, when those ahead of it have theirs."""
        if node[0] == "reg" and node[2] in self.entries:
            return self.decoded(node[2])
        pair = self.compared(node)
        if pair is None:
            return self.nodes.made(moved(node, self.places))
        equal = self.same(pair[0], pair[1])
        return equal if node[0] == "eq" else self.nodes.made(("not", 1, equal))

    def coded_next(self, reg):
        """The node that has the new word of the next of a recoded register."""
        nodes = self.graph[2]
        follow = self.graph[3][reg][3]
        coded = {}
        for at in picked_nodes(nodes, follow):
            node = nodes[at]
            if node[0] == "const":
                coded[at] = self.code_const(reg, node[2])
            elif node[0] == "reg":
                coded[at] = self.code_node(reg)
            else:
                coded[at] = self.nodes.pick(self.places[node[2]], coded[node[3]], coded[node[4]])
        return coded[follow]

    def new_reg(self, at):
        """A register of the recoded graph."""
        name, width, start, follow = self.graph[3][at]
        if at not in self.entries:
            return (name, width, start, self.places[follow])
        new_width, codes = self.entries[at]
        return (name, new_width, codes[start], self.coded_next(at))


def recoded(graph, paper):
    """The graph that is recoded by a taken paper."""
    _, inputs, nodes, regs, mems, outputs, claims = graph
    recoding = Recoding(graph, paper)
    for node in nodes:
        recoding.places.append(recoding.new_node(node))
    places = recoding.places
    new_regs = tuple([recoding.new_reg(at) for at in range(len(regs))])
    new_mems = []
    for name, width, size, writes in mems:
        new_mems.append((name, width, size, tuple([tuple([places[at] for at in write]) for write in writes])))
    shown = tuple([(name, places[node]) for name, node in outputs])
    claimed = tuple([(name, places[node]) for name, node in claims])
    return lean_graph(("graph", inputs, tuple(recoding.nodes.rows), new_regs, tuple(new_mems), shown, claimed))


def ranked_codes(olds, style):
    """The width and the codes of ascending olds in a style, None if there is no entry for them."""
    if style == "hot":
        if len(olds) > MOST_WIDTH:
            return None
        return (len(olds), tuple([(old, 1 << rank) for rank, old in enumerate(olds)]))
    width = room_width(len(olds))
    if style == "gray":
        return (width, tuple([(old, rank ^ (rank >> 1)) for rank, old in enumerate(olds)]))
    return (width, tuple([(old, rank) for rank, old in enumerate(olds)]))


def code_paper(graph, style):
    """The finder's code paper of a graph for a style."""
    if style == "plain":
        return ()
    paper = []
    for at, reg in enumerate(graph[3]):
        words = picked_words(graph, at)
        if words is None:
            continue
        olds = words if reg[2] in words else sorted(words + [reg[2]])
        ranked = ranked_codes(olds, style) if len(olds) > 1 else None
        if ranked is not None:
            paper.append((at, ranked[0], ranked[1]))
    return tuple(paper)
