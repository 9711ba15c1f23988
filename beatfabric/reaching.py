"""What two literals of a net are, in all states that are reached, for all inputs.

A table over the inputs is an integer: its bit with number b is that for the inputs with number b. The first input
counts most in these numbers, so that greater tuples have greater numbers.
"""
from beatfabric.cones import full_table, literal_table, variable_table
from beatfabric.errors import TooMany

MOST_INPUTS = 6
MOST_STATES = 300


def inputs_of(many, number):
    """The bits of so many inputs, by their number."""
    return tuple([(number >> at) & 1 for at in reversed(range(many))])


def first_state(net):
    """The starts of the registers."""
    return tuple([start for _, start, _ in net[2]])


class Beat:
    """A beat of a net in a state, for all inputs at once."""

    def __init__(self, net, state):
        self.net = net
        many = len(net[1])
        self.full = full_table(many)
        self.tables = [0] + [variable_table(at, many) for at in reversed(range(many))]
        self.tables.extend([self.full * bit for bit in state])
        for left, right in net[3]:
            self.tables.append(self.literal(left) & self.literal(right))

    def literal(self, literal):
        """The table of a literal."""
        return literal_table(self.tables, literal, self.full)

    def parting(self, pairs):
        """The table of the inputs for which the literals of some pair differ."""
        table = 0
        for one, other in pairs:
            table = table | (self.literal(one) ^ self.literal(other))
        return table

    def states_behind(self):
        """The state behind the beat for the inputs of each number."""
        nexts = [self.literal(follow) for _, _, follow in self.net[2]]
        many = 1 << len(self.net[1])
        return [tuple([(table >> number) & 1 for table in nexts]) for number in range(many)]


def reached(net, pairs):
    """Whether the literals of a pair ever differ, with the least row of inputs that shows it or all states reached."""
    many = len(net[1])
    if many > MOST_INPUTS:
        raise TooMany("inputs")
    rows = {first_state(net): ()}
    level = list(rows)
    while level:
        if len(rows) > MOST_STATES:
            raise TooMany("states")
        behind = {}
        for state in level:
            beat = Beat(net, state)
            table = beat.parting(pairs)
            if table != 0:
                number = (table & -table).bit_length() - 1
                return ("part", rows[state] + (inputs_of(many, number),))
            for number, other in enumerate(beat.states_behind()):
                if other not in rows and other not in behind:
                    behind[other] = rows[state] + (inputs_of(many, number),)
        rows.update(behind)
        level = list(behind)
    return ("alike", tuple(sorted(rows)))


def are_bits(state, many):
    """Whether this is a state of so many registers."""
    return len(state) == many and all([bit in (0, 1) for bit in state])


def is_closed(net, pairs, states):
    """Whether the start is among states, none of them is left, and in none the literals of a pair differ."""
    known = {state: True for state in states}
    if first_state(net) not in known:
        return False
    for state in known:
        beat = Beat(net, state)
        if beat.parting(pairs) != 0 or not all([other in known for other in beat.states_behind()]):
            return False
    return True
