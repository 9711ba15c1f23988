"""Bond papers: the judge, and the bonded net."""
from beatfabric.clauses import judge_refutation
from beatfabric.numbering import are_ascending, is_thing
from beatfabric.tidy import moved_literal, remade


def bond_clauses(net, pairs):
    """The clauses that pairs of a register and a literal claim."""
    ahead = 1 + len(net[1])
    clauses = []
    for reg, literal in pairs:
        plain = 2 * (ahead + reg)
        clauses.append((plain + 1, literal))
        clauses.append((plain, literal ^ 1))
    return tuple(clauses)


def next_literal(net, literal):
    """The next of a literal of 0 or of a register."""
    ahead = 1 + len(net[1])
    if literal < 2:
        return literal
    return net[2][literal // 2 - ahead][2] ^ (literal & 1)


def start_bit(net, literal):
    """The bit that a literal of 0 or of a register has at the start."""
    ahead = 1 + len(net[1])
    if literal < 2:
        return literal
    return net[2][literal // 2 - ahead][1] ^ (literal & 1)


def is_bond(net, bond):
    """Whether a bond has the right numbers, and its two sides the same bit at the start."""
    reg, literal, _, _ = bond
    if not is_thing(reg, len(net[2])):
        return False
    ahead = 2 * (1 + len(net[1]))
    if not is_thing(literal, 2) and not is_thing(literal - ahead, 2 * reg):
        return False
    return net[2][reg][1] == start_bit(net, literal)


def judge_bonds(net, paper):
    """Whether a bond paper is right for a net."""
    if not are_ascending([bond[0] for bond in paper]) or not all([is_bond(net, bond) for bond in paper]):
        return False
    clauses = bond_clauses(net, [bond[:2] for bond in paper])
    for reg, literal, differ_steps, other_steps in paper:
        own = net[2][reg][2]
        follow = next_literal(net, literal)
        if not judge_refutation(net, clauses, (own, follow ^ 1), differ_steps):
            return False
        if not judge_refutation(net, clauses, (own ^ 1, follow), other_steps):
            return False
    return True


def without_regs(net, targets):
    """The tidy net in which the registers among targets, a dict, are replaced by their literals."""
    ahead = 1 + len(net[1])
    sources = [2 * node for node in range(ahead)]
    kept = []
    for at, reg in enumerate(net[2]):
        if at in targets:
            # The literal belongs to a node ahead, which has become what it becomes at last.
            sources.append(moved_literal(sources, targets[at]))
        else:
            sources.append(2 * (ahead + len(kept)))
            kept.append(reg)
    return remade(net, sources, kept)


def bonded(net, paper):
    """The net that is bonded by a taken paper."""
    return without_regs(net, {bond[0]: bond[1] for bond in paper})
