"""A slow judge of refutations, wrong copies of refutations, and clauses, for the tests."""


def slow_clauses(net):
    clauses = [(1,)]
    for node, (left, right) in enumerate(net[3], 1 + len(net[1]) + len(net[2])):
        clauses += [(2 * node + 1, left), (2 * node + 1, right), (2 * node, left ^ 1, right ^ 1)]
    return clauses


def comes_to_a_clash(clauses, held):
    """Unit steps, one by one, by all clauses."""
    held = set(held)
    while True:
        if any(x ^ 1 in held for x in held):
            return True
        found = None
        for clause in clauses:
            rest = {x for x in clause if x ^ 1 not in held}
            if not rest:
                return True
            if len(rest) == 1 and not rest & held:
                found = rest
        if found is None:
            return False
        held |= found


def slow_judge(net, given, assumed, steps):
    """The words of the document, one by one."""
    many = 2 * (1 + len(net[1]) + len(net[2]) + len(net[3]))
    if not 1 <= len(steps) <= 4096 or steps[-1] != ():
        return False
    if any(x not in range(many) for clause in given + (assumed,) + steps for x in clause):
        return False
    clauses = slow_clauses(net) + list(given)
    for step in steps:
        if not comes_to_a_clash(clauses, list(assumed) + [x ^ 1 for x in step]):
            return False
        clauses.append(step)
    return True


def random_clauses(source, net, many, longest=3):
    nodes = 1 + len(net[1]) + len(net[2]) + len(net[3])
    return tuple(
        tuple(source.randrange(2 * nodes) for _ in range(source.randrange(1, longest + 1))) for _ in range(many)
    )


def meets(row, given, assumed):
    """Whether bits of all nodes make all given clauses true and all assumed literals 1."""
    return all(row[x // 2] ^ x & 1 for x in assumed) and all(any(row[x // 2] ^ x & 1 for x in c) for c in given)


def wrong_refutations(steps, literals):
    """Refutations that no judge takes: without an end, too long, of literals that do not exist."""
    found = [(), steps[:-1] + ((0,),), steps[:-1] + ((1, 0),), steps + ((1,),), steps * (4097 // len(steps) + 1)]
    for x in (-1, -2, 2 * literals, 2 * literals + 1, 1000000, -1000000):
        found += [((x,),) + steps, ((x, 1),) + steps]
    return found
