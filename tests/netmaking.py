"""Random right nets, and what is compared of nets, for the tests."""
from beatfabric.netruns import NetRun
from beatfabric.tidy import tidied


def random_net(source, inputs=3, regs=3, ands=12, ends=3):
    """A net whose ands can be equal, simple or not reached."""
    first = 1 + inputs + regs
    pairs = []
    for at in range(ands):
        near = 2 * (first + at)
        pairs.append((source.randrange(near), source.randrange(max(0, near - 16), near)))
    many = 2 * (first + ands)
    return (
        "net",
        tuple(f"i{at}" for at in range(inputs)),
        tuple((f"r{at}", source.randrange(2), source.randrange(many)) for at in range(regs)),
        tuple(pairs),
        tuple((f"y{at}", source.randrange(many)) for at in range(source.randrange(ends + 1))),
        tuple((f"c{at}", source.randrange(many)) for at in range(source.randrange(2))),
    )


def rows_of_bits(source, net, many):
    return [tuple(source.randrange(2) for _ in net[1]) for _ in range(many)]


def random_tidy_net(source, inputs=3, regs=3, ands=20, ends=5):
    """A tidy net in which many nodes are used several times."""
    return tidied(random_net(source, inputs, regs, ands, ends))


def node_tables(net):
    """For each node an integer: its bit with number b is that of the node when source j has bit j of b.

    The sources are the inputs and then the registers.
    """
    _, inputs, regs, ands, _, _ = net
    many = len(inputs) + len(regs)
    tables = [0]
    for at in range(many):
        tables.append(sum(1 << b for b in range(1 << many) if b >> at & 1))
    full = (1 << (1 << many)) - 1
    for left, right in ands:
        tables.append(bits_of(tables, left, full) & bits_of(tables, right, full))
    return tables


def bits_of(tables, literal, full):
    return tables[literal // 2] ^ (full if literal & 1 else 0)


def end_tables(net):
    """The tables of the outputs, the claims and the nexts."""
    tables = node_tables(net)
    full = (1 << (1 << (len(net[1]) + len(net[2])))) - 1
    literals = [x for _, x in net[4] + net[5]] + [x for _, _, x in net[2]]
    return [bits_of(tables, x, full) for x in literals]


def names_of(net):
    """All that a pass over the ands keeps: the names in order, and the starts."""
    return (
        net[1], [row[:2] for row in net[2]], [name for name, _ in net[4]], [name for name, _ in net[5]],
    )


def shown(net, rows):
    return list(NetRun(net).beats(rows))


def is_plain(tree):
    """Whether an answer is made of tuples, integers, strings and None alone."""
    if type(tree) is tuple:
        return all(is_plain(part) for part in tree)
    return tree is None or type(tree) in (int, str)


def mixed_net(source, inputs=3, regs=2, ands=30, near=8, ends=0):
    """A tidy net without plainly simple ands, whose nodes are much shared; what nothing uses is an output."""
    first = 1 + inputs + regs
    pairs = []
    tries = 0
    while len(pairs) < ands and tries < 20 * ands:
        tries += 1
        many = first + len(pairs)
        left = source.randrange(1, many)
        right = source.randrange(max(1, many - near), many)
        if left == right:
            continue
        pair = tuple(sorted((2 * left + source.randrange(2), 2 * right + source.randrange(2))))
        if pair not in pairs:
            pairs.append(pair)
    many = first + len(pairs)
    used = {x // 2 for pair in pairs for x in pair}
    shown_nodes = [node for node in range(first, many) if node not in used]
    shown_nodes += [source.randrange(1, many) for _ in range(ends)] if many > 1 else []
    return tidied((
        "net", tuple(f"i{at}" for at in range(inputs)),
        tuple((f"r{at}", source.randrange(2), source.randrange(2 * many)) for at in range(regs)), tuple(pairs),
        tuple((f"y{at}", 2 * node + source.randrange(2)) for at, node in enumerate(shown_nodes)), (),
    ))


def any_mixed_net(source, inputs=6, regs=4, ands=60):
    """A mixed net of any size up to these."""
    return mixed_net(
        source, source.randrange(1, inputs + 1), source.randrange(regs + 1), source.randrange(ands + 1),
        source.randrange(2, 20), source.randrange(5),
    )


def is_cut(net, root, leaves):
    """Whether going from a root, never beyond leaves, meets no input and no register but leaves."""
    first = 1 + len(net[1]) + len(net[2])
    met = set()
    todo = [root]
    while todo:
        node = todo.pop()
        if node in met:
            continue
        met.add(node)
        if node in leaves:
            continue
        if 0 < node < first:
            return False
        if node >= first:
            todo += [x // 2 for x in net[3][node - first]]
    return True
