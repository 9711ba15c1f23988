"""Random right nets, for the tests."""


def random_net(source, inputs=3, regs=3, ands=12, ends=3):
    """A net whose ands can be equal, simple or not reached."""
    first = 1 + inputs + regs
    pairs = []
    for at in range(ands):
        near = 2 * (first + at)
        pairs.append((source.randrange(near), source.randrange(max(0, near - 16), near)))
    many = 2 * (first + ands)
    return (
        "net",
        tuple(f"i{at}" for at in range(inputs)),
        tuple((f"r{at}", source.randrange(2), source.randrange(many)) for at in range(regs)),
        tuple(pairs),
        tuple((f"y{at}", source.randrange(many)) for at in range(source.randrange(ends + 1))),
        tuple((f"c{at}", source.randrange(many)) for at in range(source.randrange(2))),
    )


def rows_of_bits(source, net, many):
    return [tuple(source.randrange(2) for _ in net[1]) for _ in range(many)]
