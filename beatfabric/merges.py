"""Merge papers: the judge, and the merged net."""
from beatfabric.clauses import judge_refutation
from beatfabric.nets import ands_of, first_and
from beatfabric.numbering import are_ascending, is_thing
from beatfabric.tidy import Ands, moved_literal, with_ends, without_unreached


def judge_merge(net, merge):
    """Whether a merge has the right numbers and refutations."""
    node, literal, differ_steps, other_steps = merge
    first = first_and(net)
    if not first <= node < first + len(net[3]) or not is_thing(literal, 2 * node):
        return False
    if not judge_refutation(net, (), (2 * node, literal ^ 1), differ_steps):
        return False
    return judge_refutation(net, (), (2 * node + 1, literal), other_steps)


def judge_merges(net, paper):
    """Whether a merge paper is right for a net."""
    return are_ascending([merge[0] for merge in paper]) and all([judge_merge(net, merge) for merge in paper])


def with_targets(net, targets):
    """The tidy net in which the ands among targets, a dict, become what their literals have become."""
    first = first_and(net)
    literals = [2 * node for node in range(first)]
    ands = Ands(first)
    for node, left, right in ands_of(net):
        if node in targets:
            literals.append(moved_literal(literals, targets[node]))
        else:
            literals.append(ands.both(moved_literal(literals, left), moved_literal(literals, right)))
    return without_unreached(with_ends(net, net[2], ands.pairs, literals))


def merged(net, paper):
    """The net that is merged by a taken paper."""
    return with_targets(net, {merge[0]: merge[1] for merge in paper})
