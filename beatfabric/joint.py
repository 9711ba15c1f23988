"""Two nets in one, and papers that they show the same for ever."""
from beatfabric.bonding import bonds_of
from beatfabric.bonds import bond_clauses, judge_bonds
from beatfabric.clauses import judge_refutation
from beatfabric.errors import TooMany, Unlike
from beatfabric.nets import first_and
from beatfabric.refuting import refutation
from beatfabric.tidy import moved_literal

MOST_SOURCES = 10
MARK = "'"


def refuse_unlike(net, other):
    """Raises Unlike if two nets cannot be compared."""
    if net[1] != other[1] or len(net[4]) != len(other[4]) or len(net[5]) != len(other[5]):
        raise Unlike()


def joint_literals(net, regs, ands):
    """The plain literals in a joint net of all nodes of a net, whose registers and ands begin with these nodes."""
    literals = [2 * node for node in range(1 + len(net[1]))]
    literals.extend([2 * (regs + at) for at in range(len(net[2]))])
    literals.extend([2 * (ands + at) for at in range(len(net[3]))])
    return literals


def moved_rows(rows, literals, mark):
    """Outputs, claims or registers with a mark behind their names, and with the literals that theirs become."""
    return tuple([(row[0] + mark,) + row[1:-1] + (moved_literal(literals, row[-1]),) for row in rows])


def joint_net(net, other):
    """The joint net of two nets."""
    refuse_unlike(net, other)
    first = first_and(net)
    ahead = first + len(other[2])
    own = joint_literals(net, 1 + len(net[1]), ahead)
    mates = joint_literals(other, first, ahead + len(net[3]))
    ands = []
    for part, literals in ((net, own), (other, mates)):
        ands.extend([(moved_literal(literals, left), moved_literal(literals, right)) for left, right in part[3]])
    regs, outputs, claims = [moved_rows(net[at], own, "") + moved_rows(other[at], mates, MARK) for at in (2, 4, 5)]
    return ("net", net[1], regs, tuple(ands), outputs, claims)


def end_pairs(joined):
    """For each output and claim of two nets the pair of its literals in their joint net."""
    pairs = []
    for rows in joined[4:]:
        many = len(rows) // 2
        pairs.extend([(one[1], other[1]) for one, other in zip(rows[:many], rows[many:])])
    return pairs


def judge_joint(net, other, paper):
    """Whether a joint paper of two nets is right."""
    joined = joint_net(net, other)
    bonds, ends = paper
    pairs = end_pairs(joined)
    if len(ends) != len(pairs) or not judge_bonds(joined, bonds):
        return False
    clauses = bond_clauses(joined, [bond[:2] for bond in bonds])
    for (one, mate), (one_steps, mate_steps) in zip(pairs, ends):
        if not judge_refutation(joined, clauses, (one, mate ^ 1), one_steps):
            return False
        if not judge_refutation(joined, clauses, (one ^ 1, mate), mate_steps):
            return False
    return True


def joint(net, other):
    """A joint paper of two nets, None if the bonds that are found leave two bits that differ."""
    joined = joint_net(net, other)
    if len(joined[1]) + len(joined[2]) > MOST_SOURCES:
        raise TooMany("support")
    bonds = bonds_of(joined)
    clauses = bond_clauses(joined, [bond[:2] for bond in bonds])
    ends = []
    for one, mate in end_pairs(joined):
        found = [refutation(joined, clauses, (one, mate ^ 1)), refutation(joined, clauses, (one ^ 1, mate))]
        if not all([word == "refuted" for word, _ in found]):
            return None
        ends.append(tuple([steps for _, steps in found]))
    return (bonds, tuple(ends))
