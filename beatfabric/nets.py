"""Nets of bits: their judge, and what belongs to their nodes."""
from beatfabric.numbering import all_different, is_thing


def first_and(net):
    """The number of the node of the first and."""
    return 1 + len(net[1]) + len(net[2])


def ands_of(net):
    """Triples of the number of an and's node and its two literals, in order."""
    first = first_and(net)
    return [(first + at, left, right) for at, (left, right) in enumerate(net[3])]


def ends_of(net):
    """The literals of the outputs, the claims and the nexts."""
    _, _, regs, _, outputs, claims = net
    return [literal for _, literal in outputs + claims] + [follow for _, _, follow in regs]


def is_net(net):
    """Whether a net is right."""
    word, inputs, regs, ands, outputs, claims = net
    if word != "net":
        return False
    many = first_and(net) + len(ands)
    for at, left, right in ands_of(net):
        if not is_thing(left, 2 * at) or not is_thing(right, 2 * at):
            return False
    if not all([is_thing(literal, 2 * many) for literal in ends_of(net)]):
        return False
    if not all([start in (0, 1) for _, start, _ in regs]):
        return False
    if not all_different(list(inputs) + [name for name, _, _ in regs]):
        return False
    return all_different([name for name, _ in outputs]) and all_different([name for name, _ in claims])


def heights(net):
    """The heights of all nodes."""
    rows = [0] * first_and(net)
    for _, left, right in ands_of(net):
        rows.append(1 + max(rows[left // 2], rows[right // 2]))
    return tuple(rows)


def operand_nodes(net, node):
    """The nodes of the literals of an and, none for other nodes."""
    first = first_and(net)
    if node < first:
        return []
    left, right = net[3][node - first]
    return [left // 2, right // 2]


def reached_from(net, nodes):
    """For each node whether it is reached from some nodes by going to operands."""
    reached = [False] * (first_and(net) + len(net[3]))
    todo = list(nodes)
    while todo:
        node = todo.pop()
        if not reached[node]:
            reached[node] = True
            todo.extend(operand_nodes(net, node))
    return reached


def support(net, nodes):
    """The numbers of the inputs' and registers' nodes that are reached from some nodes, ascending."""
    reached = reached_from(net, nodes)
    return tuple([node for node in range(1, first_and(net)) if reached[node]])
