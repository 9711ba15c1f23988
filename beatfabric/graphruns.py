"""Runs of graphs of words."""
from beatfabric.graphs import operands_of
from beatfabric.plans import loaded, written
from beatfabric.words import result


def operation_word(nodes, node, words):
    """The word of the node of an operation, given the words of the nodes ahead of it."""
    operands = operands_of(node)
    widths = [nodes[operand][1] for operand in operands]
    return result(node[0], node[1], widths, [words[operand] for operand in operands], node[-1])


def node_words(graph, state, given):
    """The words of all nodes in a beat."""
    registers, memories = state
    nodes = graph[2]
    words = []
    for node in nodes:
        if node[0] == "input":
            words.append(given[node[2]])
        elif node[0] == "reg":
            words.append(registers[node[2]])
        elif node[0] == "const":
            words.append(node[2])
        elif node[0] == "load":
            words.append(loaded(memories[node[2]], words[node[3]]))
        else:
            words.append(operation_word(nodes, node, words))
    return words


def memory_behind(memory, writes, words):
    """What a memory contains behind a beat."""
    return written(memory, [(words[address], words[word]) for condition, address, word in writes if words[condition]])


class GraphRun:
    """A run of a right graph."""

    def __init__(self, graph):
        _, _, _, regs, mems, _, _ = graph
        self.graph = graph
        registers = tuple([start for _, _, start, _ in regs])
        self.now = (registers, tuple([(0,) * size for _, _, size, _ in mems]))

    def beat(self, given):
        """Does one beat, and returns what is shown."""
        _, _, _, regs, mems, outputs, claims = self.graph
        words = node_words(self.graph, self.now, given)
        registers = tuple([words[follow] for _, _, _, follow in regs])
        memories = []
        for memory, mem in zip(self.now[1], mems):
            memories.append(memory_behind(memory, mem[3], words))
        self.now = (registers, tuple(memories))
        return tuple([words[node] for _, node in outputs + claims])

    def beats(self, rows):
        """Does a beat for each of the rows, when it is asked for, and yields what is shown."""
        for given in rows:
            yield self.beat(given)

    @property
    def state(self):
        """The words of the registers, and a tuple of words for each memory."""
        return self.now

    @state.setter
    def state(self, value):
        self.now = value

    def resume(self, state):
        """Goes on from a state."""
        self.now = state
