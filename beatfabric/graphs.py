"""Graphs of words: their judge, and what is lean."""
from beatfabric.numbering import all_different, is_thing
from beatfabric.sized import op_width
from beatfabric.words import MOST_WIDTH

MOST_SIZE = 8

# How many operands an operation has; those of `bits` are followed by a lowest bit.
OPERANDS = {
    "not": 1, "neg": 1, "wide": 1, "sign": 1, "any": 1, "all": 1, "odd": 1,
    "add": 2, "sub": 2, "mul": 2, "and": 2, "or": 2, "xor": 2, "shl": 2, "shr": 2,
    "lt": 2, "le": 2, "eq": 2, "ne": 2, "join": 2,
    "pick": 3,
    "bits": 1,
}


def operands_of(node):
    """The numbers of the nodes that a node needs."""
    if node[0] == "load":
        return (node[3],)
    if node[0] == "bits":
        return (node[2],)
    if node[0] in OPERANDS:
        return node[2:]
    return ()


def moved(node, places):
    """A node with other numbers for its operands, as places tells."""
    if node[0] == "load":
        return node[:3] + (places[node[3]],)
    if node[0] == "bits":
        return node[:2] + (places[node[2]], node[3])
    if node[0] in OPERANDS:
        return node[:2] + tuple([places[operand] for operand in node[2:]])
    return node


def is_width(width):
    """Whether a number is a width."""
    return 1 <= width <= MOST_WIDTH


def has_width(nodes, number, width):
    """Whether a number is one of a node of that width."""
    return is_thing(number, len(nodes)) and nodes[number][1] == width


def is_source(node, rows):
    """Whether an `input` or `reg` node is right, given the rows of the inputs or registers."""
    return len(node) == 3 and is_thing(node[2], len(rows)) and rows[node[2]][1] == node[1]


def is_const(node):
    """Whether a `const` node is right."""
    return len(node) == 3 and 0 <= node[2] < 1 << node[1]


def is_load(node, mems, at):
    """Whether a `load` node is right, with the number that it has."""
    if len(node) != 4 or not is_thing(node[2], len(mems)):
        return False
    return mems[node[2]][1] == node[1] and is_thing(node[3], at)


def is_operation(node, nodes, at):
    """Whether the node of an operation is right, with the number that it has."""
    if node[0] not in OPERANDS or len(node) != 2 + OPERANDS[node[0]] + int(node[0] == "bits"):
        return False
    operands = operands_of(node)
    if not all([is_thing(operand, at) for operand in operands]):
        return False
    widths = [nodes[operand][1] for operand in operands]
    return op_width(node[0], widths, node[1], node[-1]) == node[1]


def is_node(graph, at):
    """Whether a node is right, if those ahead of it are."""
    _, inputs, nodes, regs, mems, _, _ = graph
    node = nodes[at]
    if len(node) < 2 or not is_width(node[1]):
        return False
    if node[0] == "input":
        return is_source(node, inputs)
    if node[0] == "reg":
        return is_source(node, regs)
    if node[0] == "const":
        return is_const(node)
    if node[0] == "load":
        return is_load(node, mems, at)
    return is_operation(node, nodes, at)


def is_memory(nodes, mem):
    """Whether a memory and its writes are right."""
    _, width, size, writes = mem
    if not is_width(width) or not 1 <= size <= MOST_SIZE:
        return False
    for condition, address, word in writes:
        if not has_width(nodes, condition, 1) or not is_thing(address, len(nodes)):
            return False
        if not has_width(nodes, word, width):
            return False
    return True


def is_state(nodes, reg):
    """Whether a register is right."""
    _, width, start, follow = reg
    return is_width(width) and 0 <= start < 1 << width and has_width(nodes, follow, width)


def are_declared(graph):
    """Whether the widths of the inputs and all names are right."""
    _, inputs, _, regs, mems, outputs, claims = graph
    if not all([is_width(width) for _, width in inputs]):
        return False
    if not all_different([row[0] for row in inputs + regs + mems]):
        return False
    return all_different([name for name, _ in outputs]) and all_different([name for name, _ in claims])


def is_graph(graph):
    """Whether a graph is right."""
    word, _, nodes, regs, mems, outputs, claims = graph
    if word != "graph" or not are_declared(graph):
        return False
    for at in range(len(nodes)):
        if not is_node(graph, at):
            return False
    if not all([is_state(nodes, reg) for reg in regs]) or not all([is_memory(nodes, mem) for mem in mems]):
        return False
    if not all([is_thing(node, len(nodes)) for _, node in outputs]):
        return False
    return all([has_width(nodes, node, 1) for _, node in claims])


def reached_nodes(graph):
    """For each node whether it is reached from an output, a claim, a next or a write."""
    _, _, nodes, regs, mems, outputs, claims = graph
    todo = [node for _, node in outputs + claims]
    todo.extend([reg[3] for reg in regs])
    for mem in mems:
        for write in mem[3]:
            todo.extend(write)
    reached = [False] * len(nodes)
    while todo:
        at = todo.pop()
        if not reached[at]:
            reached[at] = True
            todo.extend(operands_of(nodes[at]))
    return reached


def is_lean(graph):
    """Whether no two nodes of a right graph are equal and all are reached."""
    return all_different(graph[2]) and all(reached_nodes(graph))
