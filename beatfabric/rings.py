"""Rings among names that hang on each other."""


def steps_to(name, hung):
    """How many steps lead from each name to the told one, through names that are greater than it.

    hung tells for each name the names that hang on it.
    """
    steps = {name: 0}
    found = [name]
    at = 0
    while at < len(found):
        here = found[at]
        for other in hung.get(here, []):
            if other > name and other not in steps:
                steps[other] = steps[here] + 1
                found.append(other)
        at += 1
    return steps


def ring_size(name, hangs, steps):
    """How many names the shortest ring has of which the told one is the least, 0 if there is none."""
    sizes = [steps[other] + 1 for other in hangs[name] if other in steps]
    return min(sizes, default=0)


def least_ring(name, hangs, steps, size):
    """The least ring with so many names of which the told one is the least."""
    ring = [name]
    while len(ring) < size:
        left = size - len(ring)
        ring.append(min([other for other in hangs[ring[-1]] if steps.get(other) == left]))
    return tuple(ring)


def shortest_ring(links):
    """The ring of fewest names, of several the least one, () if there is none.

    links are pairs of a name and the names on which it hangs.
    """
    hangs = dict(links)
    hung = {}
    for name, others in links:
        for other in others:
            hung.setdefault(other, []).append(name)
    best = 0
    ring = ()
    for name in sorted(hangs):
        steps = steps_to(name, hung)
        size = ring_size(name, hangs, steps)
        if size > 0 and (best == 0 or size < best):
            best = size
            ring = least_ring(name, hangs, steps, size)
    return ring
