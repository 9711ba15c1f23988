"""The clauses of nets, and the judge of refutations."""
from beatfabric.cones import cone_of
from beatfabric.holding import Holding
from beatfabric.nets import ands_of, first_and
from beatfabric.numbering import is_thing

MOST_STEPS = 4096


def and_clauses(node, left, right):
    """The clauses of an and of two literals."""
    return [(2 * node + 1, left), (2 * node + 1, right), (2 * node, left ^ 1, right ^ 1)]


def clauses_of(net):
    """The clauses of a net."""
    clauses = [(1,)]
    for node, left, right in ands_of(net):
        clauses.extend(and_clauses(node, left, right))
    return tuple(clauses)


def nodes_among(given, assumed, steps):
    """The nodes of all literals of clauses given, literals assumed and steps."""
    nodes = {literal // 2: True for literal in assumed}
    for clause in given + steps:
        for literal in clause:
            nodes[literal // 2] = True
    return list(nodes)


def started(net, given, assumed, steps):
    """Unit steps begun with some assumed literals, by the clauses of the net and the given ones.

    Only ands are looked at that are reached from a told literal: unit steps come to all others from their operands
    alone, and lead from them no further than to what follows of these anyway.
    """
    first = first_and(net)
    holding = Holding(2 * (first + len(net[3])))
    holding.add_clause((1,))
    for literal in assumed:
        holding.hold(literal)
    for node in cone_of(net, nodes_among(given, assumed, steps), {}):
        if node >= first:
            left, right = net[3][node - first]
            for clause in and_clauses(node, left, right):
                holding.add_clause(clause)
    for clause in given:
        holding.add_clause(clause)
    if not holding.clashed:
        holding.go_on()
    return holding


def judge_refutation(net, given, assumed, steps):
    """Whether steps are a refutation of assumed literals, given some clauses."""
    if not 1 <= len(steps) <= MOST_STEPS or steps[-1] != ():
        return False
    many = 2 * (first_and(net) + len(net[3]))
    for clause in given + (assumed,) + steps:
        if not all([is_thing(literal, many) for literal in clause]):
            return False
    holding = started(net, given, assumed, steps)
    for step in steps:
        if not holding.try_literals([literal ^ 1 for literal in step]):
            return False
        holding.add_clause(step)
        holding.go_on()
    return True
