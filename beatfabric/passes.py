"""The passes that improve a net."""
from beatfabric.balance import balanced
from beatfabric.bonding import tied_pairs
from beatfabric.bonds import without_regs
from beatfabric.leastclock import least_clock
from beatfabric.merges import with_targets
from beatfabric.retiming import retimed
from beatfabric.rewrites import fully_rewritten
from beatfabric.sweeping import like_literals
from beatfabric.tidy import bared
from beatfabric.traces import held_of


def all_rewritten(net):
    """The net that is rewritten by the finder's rewritings, one after the other."""
    _, behind = fully_rewritten(net)
    return behind


def quickened(net):
    """The net that is retimed by the lags of the least clock, itself if it has a held register."""
    if held_of(net):
        return net
    _, lags, _ = least_clock(net)
    return retimed(net, lags)


def passed(net, word):
    """The net that a pass makes of a tidy net.

    The refutations of the finders' papers do not count for what is made of it, so that they are not made here.
    """
    if word == "bare":
        return bared(net)
    if word == "sweep":
        return with_targets(net, like_literals(net))
    if word == "bond":
        return without_regs(net, dict(tied_pairs(net)))
    if word == "rewrite":
        return all_rewritten(net)
    if word == "balance":
        return balanced(net)
    return quickened(net)
