"""Decides whether claims of nets hold for ever."""
from beatfabric.errors import Unknown
from beatfabric.reaching import are_bits, is_closed, reached


def claim_pair(net, name):
    """The literal of a claim and that of the bit 1."""
    claims = dict(net[5])
    if name not in claims:
        raise Unknown(name)
    return (claims[name], 1)


def decided(net, name):
    """The least row of inputs whose last beat shows 0 for a claim, or all states that are reached."""
    word, rows = reached(net, [claim_pair(net, name)])
    return ("breaks" if word == "part" else "holds", rows)


def judge_states(net, name, states):
    """Whether states show that a claim holds for ever."""
    pair = claim_pair(net, name)
    if not all([are_bits(state, len(net[2])) for state in states]):
        return False
    return is_closed(net, [pair], states)
