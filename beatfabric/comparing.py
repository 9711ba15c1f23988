"""Compares two nets for ever."""
from beatfabric.joint import end_pairs, joint_net
from beatfabric.reaching import are_bits, is_closed, reached


def compared(net, other):
    """The least row of inputs after which two nets part, or all pairs of states that are reached."""
    joined = joint_net(net, other)
    word, rows = reached(joined, end_pairs(joined))
    if word == "part":
        return (word, rows)
    many = len(net[2])
    return (word, tuple([(state[:many], state[many:]) for state in rows]))


def judge_pairs(net, other, pairs):
    """Whether pairs of states show that two nets never part."""
    joined = joint_net(net, other)
    for one, mate in pairs:
        if not are_bits(one, len(net[2])) or not are_bits(mate, len(other[2])):
            return False
    return is_closed(joined, end_pairs(joined), [one + mate for one, mate in pairs])
