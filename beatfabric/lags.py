"""Lag papers: the judge, and the clock."""
from beatfabric.nets import first_and
from beatfabric.ordering import in_order
from beatfabric.traces import held_of, refuse_held, trace_of


def sources_of(net):
    """For each and, for both of its literals, pairs of the registers that are traced and the node that is met.

    The net has no held register.
    """
    rows = []
    for pair in net[3]:
        traces = [trace_of(net, literal) for literal in pair]
        rows.append(tuple([(len(row), literal // 2) for row, literal in traces]))
    return rows


def node_lags(net, lags):
    """The lags of all nodes."""
    return [0] * first_and(net) + list(lags)


def judge_lags(net, lags):
    """Whether a lag paper is right for a net."""
    if held_of(net) or len(lags) != len(net[3]) or not all([lag >= 0 for lag in lags]):
        return False
    of_nodes = node_lags(net, lags)
    for lag, sources in zip(lags, sources_of(net)):
        if not all([lag <= many + of_nodes[node] for many, node in sources]):
            return False
    return True


def direct_ands(net, lags):
    """For each node of an and a dict of those that are directly ahead of it, without a register, if it is retimed."""
    first = first_and(net)
    of_nodes = node_lags(net, lags)
    ahead = {}
    for at, sources in enumerate(sources_of(net)):
        near = {node: True for many, node in sources if node >= first and many + of_nodes[node] == lags[at]}
        ahead[first + at] = near
    return ahead


def clock_of(net, lags):
    """The clock of a net with a taken lag paper."""
    refuse_held(net)
    ahead = direct_ands(net, lags)
    rows = {}
    for node in in_order(list(ahead), ahead):
        rows[node] = 1 + max([rows[other] for other in ahead[node]], default=0)
    return max(list(rows.values()), default=0)
