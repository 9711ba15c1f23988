"""Traces of literals back through registers."""
from beatfabric.errors import Held


def reg_of(net, literal):
    """The number of the register to which a literal belongs, None if it belongs to no register."""
    at = literal // 2 - 1 - len(net[1])
    return at if 0 <= at < len(net[2]) else None


def ends_from(net, start, known):
    """Whether tracing ends from a register; notes it in known, a dict, for all registers on the way."""
    way = {}
    at = start
    while at is not None and at not in known and at not in way:
        way[at] = True
        at = reg_of(net, net[2][at][2])
    ends = at is None or known.get(at, False)
    for passed in way:
        known[passed] = ends
    return ends


def held_of(net):
    """The names of the held registers, in order."""
    known = {}
    return tuple([reg[0] for at, reg in enumerate(net[2]) if not ends_from(net, at, known)])


def refuse_held(net):
    """Raises Held if a register is held."""
    names = held_of(net)
    if names:
        raise Held(names[0])


def trace_of(net, literal):
    """The trace of a literal of a net without held registers."""
    row = []
    at = reg_of(net, literal)
    while at is not None:
        _, start, follow = net[2][at]
        row.append(start ^ (literal & 1))
        literal = follow ^ (literal & 1)
        at = reg_of(net, literal)
    return (tuple(row), literal)


def traced(net, literal):
    """The trace of a literal: the bits of the registers, and the literal with which it ends."""
    refuse_held(net)
    return trace_of(net, literal)
