"""Tidies nets."""
from beatfabric.nets import ends_of, first_and, operand_nodes, reached_from


class Ands:
    """The ands of a tidy net in the making; equal ones are made once, simple ones not at all."""

    def __init__(self, first):
        self.first = first
        self.pairs = []
        self.places = {}

    def both(self, one, other):
        """The literal that is 1 if both literals are."""
        left = min(one, other)
        right = max(one, other)
        if left == 0:
            return 0
        if left == 1 or left == right:
            return right
        if left // 2 == right // 2:
            return 0
        if (left, right) not in self.places:
            self.places[(left, right)] = 2 * (self.first + len(self.pairs))
            self.pairs.append((left, right))
        return self.places[(left, right)]


def moved_literal(literals, literal):
    """What a literal becomes, given what the plain literals of the nodes become."""
    return literals[literal // 2] ^ (literal & 1)


def with_ends(net, regs, ands, literals):
    """A net with other registers and ands, and with outputs and claims that become other literals."""
    _, inputs, _, _, outputs, claims = net
    return (
        "net",
        inputs,
        tuple([(name, start, moved_literal(literals, follow)) for name, start, follow in regs]),
        tuple(ands),
        tuple([(name, moved_literal(literals, literal)) for name, literal in outputs]),
        tuple([(name, moved_literal(literals, literal)) for name, literal in claims]),
    )


def without_unreached(net):
    """A net without the ands that are not reached from an output, a claim or a next."""
    first = first_and(net)
    reached = reached_from(net, [literal // 2 for literal in ends_of(net)])
    literals = [2 * node for node in range(first)]
    pairs = []
    for at, (left, right) in enumerate(net[3]):
        literals.append(2 * (first + len(pairs)))
        if reached[first + at]:
            pairs.append((moved_literal(literals, left), moved_literal(literals, right)))
    return with_ends(net, net[2], pairs, literals)


def remade(net, sources, regs):
    """The tidy net in which the nodes ahead of the ands become literals, with the registers that are kept.

    sources has a literal of the new net for 0, each input and each register of the net.
    """
    literals = list(sources)
    ands = Ands(1 + len(net[1]) + len(regs))
    for left, right in net[3]:
        literals.append(ands.both(moved_literal(literals, left), moved_literal(literals, right)))
    return without_unreached(with_ends(net, regs, ands.pairs, literals))


def tidied(net):
    """The net that is tidied."""
    return remade(net, [2 * node for node in range(first_and(net))], net[2])


def needed_nodes(net):
    """The nodes that are reached from outputs and claims by going to operands, and from registers to nexts."""
    _, inputs, regs, _, outputs, claims = net
    ahead = 1 + len(inputs)
    needed = {}
    todo = [literal // 2 for _, literal in outputs + claims]
    while todo:
        node = todo.pop()
        if node not in needed:
            needed[node] = True
            todo.extend(operand_nodes(net, node))
            if ahead <= node < first_and(net):
                todo.append(regs[node - ahead][2] // 2)
    return needed


def bared(net):
    """The tidy net without the registers that are not needed."""
    needed = needed_nodes(net)
    ahead = 1 + len(net[1])
    sources = [2 * node for node in range(ahead)]
    kept = []
    for at, reg in enumerate(net[2]):
        if ahead + at in needed:
            sources.append(2 * (ahead + len(kept)))
            kept.append(reg)
        else:
            sources.append(0)
    return remade(net, sources, kept)
