"""The passes that improve a net."""
from beatfabric.balance import balanced
from beatfabric.bonding import bonds_of
from beatfabric.bonds import bonded
from beatfabric.leastclock import least_clock
from beatfabric.merges import merged
from beatfabric.retiming import retimed
from beatfabric.rewrites import rewrites
from beatfabric.rewriting import rewritten
from beatfabric.sweeping import merges_of
from beatfabric.tidy import bared
from beatfabric.traces import held_of


def all_rewritten(net):
    """The net that is rewritten by the finder's rewritings, one after the other."""
    for paper in rewrites(net):
        net = rewritten(net, paper)
    return net


def quickened(net):
    """The net that is retimed by the lags of the least clock, itself if it has a held register."""
    if held_of(net):
        return net
    _, lags, _ = least_clock(net)
    return retimed(net, lags)


def passed(net, word):
    """The net that a pass makes of a tidy net."""
    if word == "bare":
        return bared(net)
    if word == "sweep":
        return merged(net, merges_of(net))
    if word == "bond":
        return bonded(net, bonds_of(net))
    if word == "rewrite":
        return all_rewritten(net)
    if word == "balance":
        return balanced(net)
    return quickened(net)
