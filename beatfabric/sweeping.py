"""Finds the ands of a net that are like nodes ahead of them."""
from beatfabric.cones import full_table, literal_table
from beatfabric.nets import ands_of, first_and
from beatfabric.refuting import refutation

MOST_SUPPORT = 8


def with_variable(table, many, at):
    """A table over so many variables, with one more of them that does not count, at a place."""
    size = 1 << at
    block = (1 << size) - 1
    wide = 0
    for number in range(1 << (many - at)):
        part = (table >> (number * size)) & block
        wide = wide | ((part | (part << size)) << (2 * number * size))
    return wide


def without_variable(table, many, at):
    """A table over so many variables for the bit 0 of one of them, over the others."""
    size = 1 << at
    block = (1 << size) - 1
    narrow = 0
    for number in range(1 << (many - at - 1)):
        part = (table >> (2 * number * size)) & block
        narrow = narrow | (part << (number * size))
    return narrow


def over_variables(function, variables):
    """The table of a function (variables, table) over more variables."""
    own, table = function
    many = len(own)
    for at, variable in enumerate(variables):
        if variable not in own:
            table = with_variable(table, many, at)
            many += 1
    return table


def without_idle(variables, table):
    """The function (variables, table) without the variables that do not count."""
    kept = list(variables)
    for at in reversed(range(len(variables))):
        low = without_variable(table, len(kept), at)
        if with_variable(low, len(kept) - 1, at) == table:
            table = low
            kept = kept[:at] + kept[at + 1:]
    return (tuple(kept), table)


def joined(one, other):
    """The numbers of two tuples, ascending, each once."""
    return tuple(sorted(set(one + other)))


class Likeness:
    """The supports and functions of the nodes of a net, as far as they have few variables.

    A function is a pair of the variables that count, ascending, and the table over them; classes has the nodes by
    their functions, opposite ones together.
    """

    def __init__(self, net):
        self.supports = [()]
        self.functions = [((), 0)]
        self.classes = {((), 0): [0]}
        for node in range(1, first_and(net)):
            self.supports.append((node,))
            self.functions.append(((node,), 2))
            self.classes[((node,), 2)] = [node]

    def operand_table(self, literal, variables):
        """The table of a literal over variables."""
        full = full_table(len(variables))
        return literal_table({literal // 2: over_variables(self.functions[literal // 2], variables)}, literal, full)

    def add_and(self, left, right):
        """Adds the and of two literals; None stands for a support with too many numbers."""
        supports = [self.supports[left // 2], self.supports[right // 2]]
        reached = None if None in supports else joined(supports[0], supports[1])
        if reached is None or len(reached) > MOST_SUPPORT:
            self.supports.append(None)
            self.functions.append(None)
            return
        self.supports.append(reached)
        variables = joined(self.functions[left // 2][0], self.functions[right // 2][0])
        table = self.operand_table(left, variables) & self.operand_table(right, variables)
        self.functions.append(without_idle(variables, table))

    def plain_function(self, node):
        """The function of a node, inverted if it is 1 where all variables are 0."""
        variables, table = self.functions[node]
        return (variables, table ^ full_table(len(variables)) if table & 1 else table)

    def like_literal(self, node):
        """The literal of the least node ahead of an and that it is like, None if there is none."""
        if self.functions[node] is None:
            return None
        function = self.plain_function(node)
        for other in self.classes.get(function, []):
            if len(joined(self.supports[node], self.supports[other])) <= MOST_SUPPORT:
                return 2 * other + ((self.functions[node][1] ^ self.functions[other][1]) & 1)
        return None

    def remember(self, node):
        """Puts an and among the nodes by their functions."""
        if self.functions[node] is not None:
            self.classes.setdefault(self.plain_function(node), []).append(node)


def like_literals(net):
    """For each and that is alike or opposite to a node ahead of it the literal of the least one."""
    likeness = Likeness(net)
    literals = {}
    for node, left, right in ands_of(net):
        likeness.add_and(left, right)
        literal = likeness.like_literal(node)
        if literal is not None:
            literals[node] = literal
        likeness.remember(node)
    return literals


def merges_of(net):
    """The finder's merge paper of a net."""
    paper = []
    for node, literal in like_literals(net).items():
        _, differ_steps = refutation(net, (), (2 * node, literal ^ 1))
        _, other_steps = refutation(net, (), (2 * node + 1, literal))
        paper.append((node, literal, differ_steps, other_steps))
    return tuple(paper)
