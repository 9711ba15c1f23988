"""Finds refutations, or bits that cannot be refuted."""
from beatfabric.clauses import nodes_among, started
from beatfabric.errors import TooMany
from beatfabric.nets import first_and, support

MOST_SUPPORT = 10


class Splitting:
    """Splits on the bits of some variables, nodes of inputs and registers, until unit steps come to a clash."""

    def __init__(self, holding, variables):
        self.holding = holding
        self.variables = variables
        self.steps = []

    def met_bits(self, way):
        """The least literals of all variables that begin with those of a way and come to no clash, None if none do.

        If there are none, the steps that have been made refute the way by unit steps alone.
        """
        if self.holding.clashed:
            return None
        if len(way) == len(self.variables):
            return way
        many = len(self.holding.trail)
        plain = 2 * self.variables[len(way)]
        for literal in (plain + 1, plain):
            if self.holding.held[literal ^ 1]:
                continue
            self.holding.hold(literal)
            self.holding.go_on()
            found = self.met_bits(way + [literal])
            self.holding.take_back(many)
            if found is not None:
                return found
            if literal != plain:
                self.steps.append(tuple([other ^ 1 for other in way + [literal]]))
        return None


def refutation(net, given, assumed):
    """Steps that refute assumed literals, given some clauses, or the least bits that meet them all."""
    variables = support(net, nodes_among(given, assumed, ()))
    if len(variables) > MOST_SUPPORT:
        raise TooMany("support")
    splitting = Splitting(started(net, given, assumed, ()), variables)
    found = splitting.met_bits([])
    if found is None:
        return ("refuted", tuple(splitting.steps) + ((),))
    bits = [0] * (first_and(net) - 1)
    for literal in found:
        bits[literal // 2 - 1] = 1 - (literal & 1)
    return ("met", tuple(bits))
