"""The least clock of a net, and bars for clocks."""
from beatfabric.lags import clock_of, sources_of
from beatfabric.nets import first_and
from beatfabric.numbering import is_thing
from beatfabric.traces import held_of, refuse_held


def follows(sources, first, node, other, count):
    """Whether an and has a literal whose trace ends at an and ahead of it, with a row that long."""
    return (count, other) in sources[node - first]


def judge_bar(net, clock, bar):
    """Whether a bar is right for a clock."""
    if held_of(net) or clock < 0:
        return False
    if clock == 0 or bar is None:
        return clock == 0 and bar is None
    word, ands, counts = bar
    first = first_and(net)
    if word not in ("way", "ring") or not ands or len(ands) != len(counts):
        return False
    if not all([is_thing(node - first, len(net[3])) for node in ands]):
        return False
    sources = sources_of(net)
    for before, node, count in zip(ands, ands[1:], counts[1:]):
        if not follows(sources, first, node, before, count):
            return False
    if word == "ring":
        return follows(sources, first, ands[0], ands[-1], counts[0]) and len(ands) > (clock - 1) * sum(counts)
    begins = any([many == counts[0] and node < first for many, node in sources[ands[0] - first]])
    return begins and len(ands) > (clock - 1) * (1 + sum(counts))


class Pushing:
    """Pushes ands forward until no more than clock ands follow each other, or until a bar is found.

    pushes of an and are clock * (lag - 1), and how many ands can still follow it up to the next register. So each
    literal's and has at least 1 more than the and that it leads to, less clock for each register between; from 0 or
    an input on there is room for clock - 1 and clock for each register. All are as small as can be.
    """

    def __init__(self, net, clock):
        self.first = first_and(net)
        self.clock = clock
        self.sources = sources_of(net)
        self.pushes = [-clock] * len(self.sources)
        # For each and that was pushed the one that pushed it, and the registers between them.
        self.pushers = {}

    def push_round(self):
        """Pushes what leads to each and, the last ands first; whether something was pushed."""
        pushed = False
        for at in reversed(range(len(self.sources))):
            for many, node in self.sources[at]:
                least = self.pushes[at] + 1 - self.clock * many
                if node >= self.first and self.pushes[node - self.first] < least:
                    self.pushes[node - self.first] = least
                    self.pushers[node - self.first] = (at, many)
                    pushed = True
        return pushed

    def way_bar(self, at, many):
        """The bar of a way that begins with an and, from what is so many registers ahead of it, to where it leads."""
        ands = [self.first + at]
        counts = [many]
        while at in self.pushers:
            at, many = self.pushers[at]
            ands.append(self.first + at)
            counts.append(many)
        return ("way", tuple(ands), tuple(counts))

    def ring_from(self, start, done):
        """The ring on which ands push each other that leads to an and, () if there is none.

        done is a dict of ands from which no ring is reached; those on the way are put into it.
        """
        places = {}
        at = start
        while at in self.pushers and at not in places and at not in done:
            places[at] = len(places)
            at = self.pushers[at][0]
        done.update(places)
        return list(places)[places[at]:] if at in places else ()

    def ring_bar(self):
        """The bar of ands that push each other in a ring, None if none do."""
        done = {}
        for start in range(len(self.sources)):
            ring = self.ring_from(start, done)
            if ring:
                counts = [self.pushers[at][1] for at in ring]
                return ("ring", tuple([self.first + at for at in ring]), tuple(counts[-1:] + counts[:-1]))
        return None

    def found_way(self):
        """The bar of a way for which there is no room, None if there is none."""
        for at, sources in enumerate(self.sources):
            for many, node in sources:
                if node < self.first and self.pushes[at] > self.clock * many - 1:
                    return self.way_bar(at, many)
        return None

    def bar(self):
        """A bar for one more than the clock, None if the clock can be had."""
        while self.push_round():
            ring = self.ring_bar()
            if ring is not None:
                return ring
        return self.found_way()

    def made_lags(self):
        """The lags, when the clock can be had."""
        return tuple([push // self.clock + 1 for push in self.pushes])


def least_clock(net):
    """The least clock of a net, a lag paper that has it, and a bar for it."""
    refuse_held(net)
    lags = (0,) * len(net[3])
    low = 0
    high = clock_of(net, lags)
    bar = Pushing(net, low).bar()
    # The clock high can be had, by the lags; low cannot, by the bar for low + 1. Without ands both are 0.
    while high - low > 1:
        middle = (low + high) // 2
        pushing = Pushing(net, middle)
        found = pushing.bar()
        if found is None:
            high = middle
            lags = pushing.made_lags()
        else:
            low = middle
            bar = found
    return (high, lags, bar)
