"""Pairs of nets that can be compared, and slow searches over their states, for the tests."""
import itertools

from beatfabric.netruns import NetRun
from beatfabric.passes import passed
from beatfabric.tidy import tidied
from tests.netmaking import random_net


def resized(source, inputs, outputs, claims, regs=4, ands=14):
    """A random net with so many inputs, outputs and claims."""
    net = random_net(source, inputs, source.randrange(regs + 1), source.randrange(ands + 1), 3)
    many = 2 * (1 + inputs + len(net[2]) + len(net[3]))
    return net[:4] + (
        tuple((f"y{at}", source.randrange(many)) for at in range(outputs)),
        tuple((f"c{at}", source.randrange(many)) for at in range(claims)),
    )


def with_literal(source, net):
    """The net with another literal at one of its places."""
    many = 2 * (1 + len(net[1]) + len(net[2]) + len(net[3]))
    kind = source.choice([at for at in (2, 3, 4, 5) if net[at]] or [0])
    if kind == 0:
        return net
    at = source.randrange(len(net[kind]))
    row = net[kind][at]
    if kind == 3:
        row = (row[0], source.randrange(2 * (1 + len(net[1]) + len(net[2]) + at)))
    elif kind == 2 and source.randrange(2):
        row = (row[0], 1 - row[1], row[2])
    else:
        row = row[:-1] + (source.randrange(many),)
    return net[:kind] + (net[kind][:at] + (row,) + net[kind][at + 1:],) + net[kind + 1:]


def mate_of(source, net):
    """A net that can be compared with a net; most show the same for ever."""
    kind = source.randrange(8)
    if kind == 0:
        return resized(source, len(net[1]), len(net[4]), len(net[5]))
    if kind == 1:
        return with_literal(source, net)
    if kind == 2:
        return with_literal(source, tidied(net))
    other = tidied(net)
    for _ in range(source.randrange(3)):
        other = passed(other, source.choice(("bare", "sweep", "bond", "rewrite", "balance", "retime")))
    return other


def any_pair(source, inputs=3, regs=4):
    """Two nets that can be compared, whose outputs can have other names."""
    net = resized(source, source.randrange(inputs + 1), source.randrange(4), source.randrange(3), regs)
    other = mate_of(source, net)
    if source.randrange(2):
        other = other[:4] + (tuple((f"z{at}", x) for at, (_, x) in enumerate(other[4])), other[5])
    return net, other


def rows_of(net):
    """All inputs of a beat, ascending."""
    return list(itertools.product((0, 1), repeat=len(net[1])))


def beat_from(net, state, row):
    run = NetRun(net)
    run.state = state
    shown = run.beat(row)
    return shown, run.state


def starts_of(net):
    return tuple(start for _, start, _ in net[2])


def slow_compared(net, other, most=300):
    """Rows of one beat, of two beats and so on, each from the starts on; None for too many states."""
    rows = {(starts_of(net), starts_of(other)): ()}
    while True:
        if len(rows) > most:
            return None
        found = []
        for (one, mate), row in rows.items():
            for given in rows_of(net):
                if beat_from(net, one, given)[0] != beat_from(other, mate, given)[0]:
                    found.append((len(row), row + (given,)))
        if found:
            return ("part", min(found)[1])
        more = dict(rows)
        for (one, mate), row in rows.items():
            for given in rows_of(net):
                pair = (beat_from(net, one, given)[1], beat_from(other, mate, given)[1])
                if pair not in more or (len(more[pair]), more[pair]) > (len(row) + 1, row + (given,)):
                    more[pair] = row + (given,)
        if more == rows:
            return ("alike", tuple(sorted(rows)))
        rows = more


def slow_judge_pairs(net, other, pairs):
    """The words of the document, one by one."""
    for one, mate in pairs:
        if len(one) != len(net[2]) or len(mate) != len(other[2]) or any(bit not in (0, 1) for bit in one + mate):
            return False
    if (starts_of(net), starts_of(other)) not in pairs:
        return False
    for one, mate in pairs:
        for given in rows_of(net):
            shown, state = beat_from(net, one, given)
            told, behind = beat_from(other, mate, given)
            if shown != told or (state, behind) not in pairs:
                return False
    return True


def line(many, shown, wide=0, start=1):
    """A 1 that goes round through so many registers, with so many inputs; shown are the outputs' literals."""
    ahead = 1 + wide
    regs = tuple((f"r{at}", start if at == 0 else 0, 2 * (ahead + (at - 1) % many)) for at in range(many))
    names = tuple(f"i{at}" for at in range(wide))
    return ("net", names, regs, (), tuple((f"y{at}", x) for at, x in enumerate(shown)), ())


def held_bits(many, shown, claims=()):
    """As many registers as inputs, two rows of them: each beat the inputs go in, and on; then a line of 3 beats.

    After two beats every state of both rows can be there.
    """
    ahead = 1 + many
    regs = tuple((f"p{at}", 0, 2 * (1 + at)) for at in range(many))
    regs += tuple((f"q{at}", 0, 2 * (ahead + at)) for at in range(many))
    last = ahead + 2 * many
    regs += (("t0", 0, 1), ("t1", 0, 2 * last), ("t2", 0, 2 * last + 2))
    names = tuple(f"i{at}" for at in range(many))
    return (
        "net", names, regs, (), tuple((f"y{at}", 2 * last + x) for at, x in enumerate(shown)),
        tuple((f"c{at}", 2 * last + x) for at, x in enumerate(claims)),
    )
