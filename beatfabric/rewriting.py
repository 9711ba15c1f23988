"""Rewritings of nets: the judge, and the rewritten net."""
from beatfabric.cones import cone_tables, full_table, is_cut, leaf_tables, literal_table, variable_table
from beatfabric.nets import ands_of, first_and
from beatfabric.numbering import are_ascending, is_thing
from beatfabric.tidy import Ands, moved_literal, with_ends, without_unreached

MOST_LEAVES = 4
MOST_STEPS = 8


def are_leaves(root, leaves):
    """Whether numbers can be the leaves of a root."""
    if not 1 <= len(leaves) <= MOST_LEAVES or not are_ascending(leaves):
        return False
    return 0 < leaves[0] and leaves[-1] < root


def are_steps(ahead, steps, result):
    """Whether the steps and the result have literals of local numbers, of which so many are ahead of the steps."""
    if len(steps) > MOST_STEPS:
        return False
    for at, step in enumerate(steps):
        if not all([is_thing(literal, 2 * (ahead + at)) for literal in step]):
            return False
    return is_thing(result, 2 * (ahead + len(steps)))


def result_table(many, steps, result):
    """The table of the result of steps over so many leaves."""
    full = full_table(many)
    tables = [0] + [variable_table(at, many) for at in range(many)]
    for left, right in steps:
        tables.append(literal_table(tables, left, full) & literal_table(tables, right, full))
    return literal_table(tables, result, full)


def judge_rewriting(net, paper):
    """Whether a rewriting of a net is right."""
    root, leaves, steps, result = paper
    first = first_and(net)
    if not first <= root < first + len(net[3]) or not are_leaves(root, leaves):
        return False
    if not are_steps(1 + len(leaves), steps, result):
        return False
    tables = leaf_tables(leaves)
    if not is_cut(net, root, tables):
        return False
    table = cone_tables(net, [root], tables, full_table(len(leaves)))[root]
    return table == result_table(len(leaves), steps, result)


def stepped_literal(ands, literals, paper):
    """The literal of the result of a rewriting, whose steps are put among the ands."""
    _, leaves, steps, result = paper
    local = [0] + [literals[leaf] for leaf in leaves]
    for left, right in steps:
        local.append(ands.both(moved_literal(local, left), moved_literal(local, right)))
    return moved_literal(local, result)


def rewritten(net, paper):
    """The net that is rewritten by a taken rewriting."""
    first = first_and(net)
    literals = [2 * node for node in range(first)]
    ands = Ands(first)
    for node, left, right in ands_of(net):
        if node == paper[0]:
            literals.append(stepped_literal(ands, literals, paper))
        else:
            literals.append(ands.both(moved_literal(literals, left), moved_literal(literals, right)))
    return without_unreached(with_ends(net, net[2], ands.pairs, literals))
