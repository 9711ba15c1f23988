"""Slow ways to judge lag papers, to work out clocks and to retime, for the tests."""
import itertools

from beatfabric.netruns import NetRun, literal_bit, node_bits
from beatfabric.tidy import tidied
from beatfabric.traces import traced


def lag_of(net, lags, node):
    first = 1 + len(net[1]) + len(net[2])
    return lags[node - first] if node >= first else 0


def slow_judge_lags(net, lags):
    """The words of the document, one by one, for a net without held registers."""
    if len(lags) != len(net[3]) or any(lag < 0 for lag in lags):
        return False
    for lag, pair in zip(lags, net[3]):
        for x in pair:
            row, end = traced(net, x)
            if lag > len(row) + lag_of(net, lags, end // 2):
                return False
    return True


def slow_judge_bar(net, clock, bar):
    """The words of the document, one by one, for a net without held registers."""
    first = 1 + len(net[1]) + len(net[2])
    if bar is None or clock <= 0:
        return bar is None and clock == 0
    word, ands, counts = bar
    if len(ands) == 0 or len(ands) != len(counts) or any(node not in range(first, first + len(net[3])) for node in ands):
        return False

    def leads(node, count, wanted):
        traces = [traced(net, x) for x in net[3][node - first]]
        return any(len(row) == count and wanted(end // 2) for row, end in traces)

    for at in range(1, len(ands)):
        if not leads(ands[at], counts[at], lambda end: end == ands[at - 1]):
            return False
    if word == "way":
        return leads(ands[0], counts[0], lambda end: end < first) and len(ands) > (clock - 1) * (sum(counts) + 1)
    if word == "ring":
        return leads(ands[0], counts[0], lambda end: end == ands[-1]) and len(ands) > (clock - 1) * sum(counts)
    return False


def slow_clock(net, lags):
    """The greatest number of ands that follow each other: all ways, one and after the other."""
    first = 1 + len(net[1]) + len(net[2])
    nears = {}
    for node, pair in enumerate(net[3], first):
        nears[node] = []
        for x in pair:
            row, end = traced(net, x)
            if end // 2 >= first and len(row) + lag_of(net, lags, end // 2) == lag_of(net, lags, node):
                nears[node].append(end // 2)

    def longest(node):
        return 1 + max([longest(other) for other in nears[node]], default=0)

    return max([longest(node) for node in nears], default=0)


def all_papers(net, most):
    """All lag papers with lags up to a bound that are right."""
    for lags in itertools.product(range(most + 1), repeat=len(net[3])):
        if slow_judge_lags(net, lags):
            yield lags


def greatest_lags(net, most):
    """For each and the greatest lag that it can have, at most a bound."""
    lags = [most] * len(net[3])
    changed = True
    while changed:
        changed = False
        for at, pair in enumerate(net[3]):
            for x in pair:
                row, end = traced(net, x)
                bound = len(row) + lag_of(net, lags, end // 2)
                if lags[at] > bound:
                    lags[at] = bound
                    changed = True
    return tuple(lags)


def slow_retimed(net, lags):
    """The net by the words of the document: all registers for themselves, then equal ones put together."""
    _, inputs, regs, ands, outputs, claims = net
    ahead, first = 1 + len(inputs), 1 + len(inputs) + len(regs)
    run = NetRun(net)
    beats = []

    def bit_at(x, beat):
        while len(beats) <= beat:
            beats.append(node_bits(net, (0,) * len(inputs) + run.state))
            run.beat((0,) * len(inputs))
        return literal_bit(beats[beat], x)

    rows = []

    def wired(x, lag):
        """What stands for x: ("reg", number), or ("node", literal)."""
        row, end = traced(net, x)
        many = len(row) + lag_of(net, lags, end // 2) - lag
        last = ("node", end)
        for beat in reversed(range(lag, lag + many)):
            rows.append([bit_at(x, beat), last])
            last = ("reg", len(rows) - 1)
        return last

    pairs = [[wired(x, lag) for x in pair] for lag, pair in zip(lags, ands)]
    ends = [[(name, wired(x, 0)) for name, x in part] for part in (outputs, claims)]
    # Registers with one start and one next are put together, until there are no more such.
    same = list(range(len(rows)))
    while True:
        keys = {}
        for at, (start, (kind, what)) in enumerate(rows):
            keys.setdefault((start, kind, same[what] if kind == "reg" else what), at)
        new = [keys[(start, kind, same[what] if kind == "reg" else what)] for start, (kind, what) in rows]
        if new == same:
            break
        same = new
    kept = sorted(set(same))
    numbers = {at: number for number, at in enumerate(kept)}
    order = []
    todo = list(range(len(ands)))
    while todo:
        for at in todo:
            if all(kind == "reg" or what // 2 < first or what // 2 - first in order for kind, what in pairs[at]):
                order.append(at)
                todo.remove(at)
                break
    places = {first + at: ahead + len(kept) + place for place, at in enumerate(order)}

    def literal(wire):
        kind, what = wire
        if kind == "reg":
            return 2 * (ahead + numbers[same[what]])
        return 2 * places.get(what // 2, what // 2) + what % 2

    return tidied((
        "net", inputs, tuple((f"'{number}", rows[at][0], literal(rows[at][1])) for number, at in enumerate(kept)),
        tuple(tuple(literal(wire) for wire in pairs[at]) for at in order),
        tuple((name, literal(wire)) for name, wire in ends[0]), tuple((name, literal(wire)) for name, wire in ends[1]),
    ))


def shape_of(net):
    """What does not depend on the names and the order of registers, nor on the order of ands.

    Nodes get colours, refined until they tell all that is reached from them.
    """
    _, inputs, regs, ands, outputs, claims = net
    ahead, first = 1 + len(inputs), 1 + len(inputs) + len(regs)
    colours = ["0"] + [f"in {name}" for name in inputs] + [f"reg {start}" for _, start, _ in regs] + ["and"] * len(ands)
    for _ in range(len(colours) + 1):
        new = colours[:ahead]
        for _, start, x in regs:
            new.append(("reg", start, colours[x // 2], x % 2))
        for pair in ands:
            new.append(("and",) + tuple(sorted(f"{colours[x // 2]} {x % 2}" for x in pair)))
        named = {colour: f"c{place}" for place, colour in enumerate(sorted({repr(colour) for colour in new}))}
        colours = [named[repr(colour)] for colour in new]
    # Numbers of colours are those of sorted descriptions, so that nets of one shape get the same ones.
    return (
        sorted(colours), sorted(repr(colour) for colour in new), [(name, colours[x // 2], x % 2) for name, x in outputs],
        [(name, colours[x // 2], x % 2) for name, x in claims],
        sorted((start, colours[x // 2], x % 2) for _, start, x in regs), colours[:ahead], len(regs), len(ands), first,
    )
