"""The least clock, and bars."""
import random
import unittest

from beatfabric.errors import Held
from beatfabric.lags import clock_of, judge_lags
from beatfabric.leastclock import judge_bar, least_clock
from beatfabric.netof import net_of
from beatfabric.traces import held_of
from tests.lagging import all_papers, slow_clock, slow_judge_bar
from tests.mutants import changed, relisted
from tests.netmaking import any_mixed_net, is_plain, random_net
from tests.test_netof import SHAPES, small_graph

HELD = ("net", ("a",), (("p", 0, 2), ("s", 0, 6)), ((2, 4),), (("y", 8),), ())
# A way of three ands, with a register behind the first two; a ring of three ands with two registers.
WAY = ("net", ("a",), (("p", 0, 8),), ((2, 3), (2, 6), (4, 5)), (("y", 10),), ())
RING = ("net", (), (("p", 0, 6), ("q", 1, 11)), ((4, 4), (2, 2), (8, 8)), (), ())


def ladder(many, regs):
    """Ands that follow each other, with registers behind the last one."""
    rows = tuple((f"r{at}", at & 1, 2 * (2 + regs + many - 1) if at == 0 else 2 * (1 + at)) for at in range(regs))
    ands = tuple((2, 2 * (1 + regs + at)) for at in range(many))
    return ("net", ("a",), rows, ands, (("y", 2 * (1 + regs)),), ())


class LeastClockTest(unittest.TestCase):
    def check(self, net):
        clock, lags, bar = least_clock(net)
        self.assertEqual(least_clock(net), (clock, lags, bar))
        self.assertIs(is_plain((clock, lags, bar)), True)
        self.assertIs(judge_lags(net, lags), True)
        self.assertEqual(clock_of(net, lags), clock)
        self.assertIs(judge_bar(net, clock, bar), True)
        self.assertIs(slow_judge_bar(net, clock, bar), True)
        self.assertIs(judge_bar(net, clock + 1, bar), False)
        self.assertLessEqual(clock, clock_of(net, (0,) * len(net[3])))
        return clock

    def test_no_ands(self):
        for net in (
            ("net", (), (), (), (), ()), ("net", ("a",), (("r", 0, 2),), (), (("y", 4),), ()),
            ("net", (), (), (), (), (("c", 1),)),
        ):
            self.assertEqual(least_clock(net), (0, (), None))

    def test_no_registers(self):
        for many in range(1, 8):
            ands = tuple((2 * (1 + at), 3) for at in range(many))
            net = ("net", ("a",), (), ands, (), ())
            self.assertEqual(self.check(net), many)

    def test_no_inputs(self):
        net = ("net", (), (("r", 1, 4),), ((2, 3),), (), ())
        self.assertEqual(self.check(net), 1)
        net = ("net", (), (("r", 1, 8), ("s", 0, 2)), ((2, 4), (6, 5)), (("y", 8),), ())
        self.assertEqual(self.check(net), 2)
        net = ("net", (), (), ((0, 1), (2, 2)), (), ())
        self.assertEqual(self.check(net), 2)

    def test_rings(self):
        """So many ands with so many registers in a ring: the quotient, rounded up; an input bars lags, too."""
        for many in range(1, 7):
            for regs in range(1, 5):
                rows = tuple((f"r{at}", 0, 2 * (regs + many) if at == 0 else 2 * at) for at in range(regs))
                ands = tuple((2 * (regs + at), 2 * (regs + at)) for at in range(many))
                net = ("net", (), rows, ands, (), ())
                self.assertEqual(self.check(net), -(-many // regs))
                self.assertEqual(least_clock(net)[2][0] if many > regs else "ring", "ring")
                self.check(ladder(many, regs))

    def test_ways(self):
        """A way of ands with registers ahead of them: they go to where they are needed."""
        for many in range(1, 8):
            for regs in range(5):
                rows = tuple((f"r{at}", 0, 2 * (1 + at)) for at in range(regs))
                ands = tuple((2 * (1 + regs + at),) * 2 for at in range(many))
                net = ("net", ("a",), rows, ands, (("y", 2 * (1 + regs + many)),), ())
                self.assertEqual(self.check(net), -(-many // (regs + 1)))

    def test_registers_behind_do_not_help(self):
        """Lags are not below 0: registers do not go back."""
        net = ("net", ("a",), (("p", 0, 10), ("q", 0, 4)), ((2, 2), (8, 8)), (("y", 6),), ())
        self.assertEqual(self.check(net), 2)

    def test_random_nets_by_a_slow_search(self):
        seen = {}
        for seed in range(500):
            source = random.Random(seed)
            net = random_net(source, source.randrange(3), source.randrange(5), source.randrange(1, 5), 2)
            if held_of(net):
                continue
            clock = self.check(net)
            papers = list(all_papers(net, 3))
            self.assertEqual(clock, min(slow_clock(net, lags) for lags in papers))
            start = slow_clock(net, (0,) * len(net[3]))
            seen[start - clock] = seen.get(start - clock, 0) + 1
        self.assertGreater(seen[1], 3)

    def test_larger_nets(self):
        better = 0
        words = {}
        for seed in range(300):
            source = random.Random(seed)
            net = random_net(source, source.randrange(4), source.randrange(8), source.randrange(30), 3)
            if seed % 2:
                net = any_mixed_net(source, 4, 8, 50)
            if held_of(net):
                continue
            clock = self.check(net)
            better += clock < clock_of(net, (0,) * len(net[3]))
            bar = least_clock(net)[2]
            if bar is not None:
                words[bar[0]] = words.get(bar[0], 0) + 1
        self.assertGreater(better, 15)
        self.assertGreater(min(words["way"], words["ring"]), 5)

    def test_nets_of_graphs(self):
        for seed in range(40):
            net = net_of(small_graph(seed), SHAPES[seed % len(SHAPES)])
            if not held_of(net):
                self.check(net)

    def test_held(self):
        for net in (HELD, ("net", (), (("s", 0, 2),), (), (), ())):
            with self.assertRaises(Held) as caught:
                least_clock(net)
            self.assertEqual(caught.exception.name, "s")


class BarTest(unittest.TestCase):
    def good(self, net, clock, bar):
        self.assertIs(judge_bar(net, clock, bar), True)

    def bad(self, net, clock, bar):
        self.assertIs(judge_bar(net, clock, bar), False)

    def test_clocks_of_0_and_below(self):
        for net in (WAY, RING, ("net", (), (), (), (), ())):
            self.good(net, 0, None)
            for clock in (-1, -2, -1000000):
                self.bad(net, clock, None)
                self.bad(net, clock, ("way", (3,), (0,)))
            for clock in (1, 2, 1000000):
                self.bad(net, clock, None)
        for bar in (("way", (3,), (0,)), ("ring", (3, 4, 5), (1, 1, 0)), ("", (), ())):
            for clock in (0, -1):
                self.bad(WAY, clock, bar)
                self.bad(RING, clock, bar)

    def test_ways(self):
        self.good(WAY, 1, ("way", (3,), (0,)))
        self.good(WAY, 1, ("way", (4,), (0,)))
        self.bad(WAY, 2, ("way", (3, 5), (0, 1)))
        self.good(WAY, 2, ("way", (3, 4), (0, 0)))
        self.good(WAY, 1, ("way", (3, 4, 5), (0, 0, 1)))
        self.bad(WAY, 2, ("way", (3,), (0,)))
        self.bad(WAY, 3, ("way", (3, 4), (0, 0)))
        self.bad(WAY, 2, ("way", (4, 3), (0, 0)))
        self.bad(WAY, 2, ("way", (5,), (0,)))
        self.bad(WAY, 2, ("ring", (3, 4), (0, 0)))

    def test_rings(self):
        clock, _, bar = least_clock(RING)
        self.assertEqual((clock, bar[0]), (2, "ring"))
        twice = ("ring", bar[1] * 2, bar[2] * 2)
        self.good(RING, clock, twice)
        self.bad(RING, clock + 1, twice)
        for turn in range(len(bar[1])):
            turned = ("ring", bar[1][turn:] + bar[1][:turn], bar[2][turn:] + bar[2][:turn])
            self.good(RING, clock, turned)
            self.bad(RING, clock + 1, turned)

    def test_a_ring_by_hand(self):
        """Three ands, one register: p is node 1, ands 2, 3, 4."""
        net = ("net", (), (("p", 0, 8),), ((2, 3), (4, 1), (6, 1)), (), ())
        for turned in (((2, 3, 4), (1, 0, 0)), ((3, 4, 2), (0, 0, 1)), ((4, 2, 3), (0, 1, 0)),
                       ((2, 3, 4, 2, 3, 4), (1, 0, 0, 1, 0, 0))):
            for clock in (1, 2, 3):
                self.good(net, clock, ("ring",) + turned)
            self.bad(net, 4, ("ring",) + turned)
            self.bad(net, 1, ("Ring",) + turned)
            self.bad(net, 1, ("",) + turned)
        for counts in ((0, 0, 0), (1, 0, 1), (1, 1, 0), (2, 0, 0), (-1, 0, 0), (0, 1, 0), (1000000, 0, 0)):
            self.bad(net, 1, ("ring", (2, 3, 4), counts))
        for counts in ((), (1,), (1, 0), (1, 0, 0, 0)):
            self.bad(net, 1, ("ring", (2, 3, 4), counts))
        for ands in ((2, 4, 3), (2, 3), (2,), (3, 4), (2, 3, 4, 4), (), (1, 2, 3), (5, 3, 4), (-1, 3, 4),
                     (1000000, -1000000, 0)):
            self.bad(net, 1, ("ring", ands, (1, 0, 0, 0)[:len(ands)]))
        # Ands 3 and 4 read the constant 1, so that ways begin with them.
        self.good(net, 2, ("way", (3, 4), (0, 0)))
        self.good(net, 2, ("way", (3, 4, 2), (0, 0, 1)))
        self.bad(net, 3, ("way", (3, 4, 2), (0, 0, 1)))
        self.bad(net, 1, ("way", (2, 3, 4), (1, 0, 0)))

    def test_ands_several_times(self):
        """A way twice round a ring."""
        net = ("net", ("a",), (("p", 0, 8),), ((2, 4), (6, 6)), (), ())
        self.good(net, 1, ("way", (3, 4, 3, 4), (0, 0, 1, 0)))
        self.good(net, 2, ("way", (3, 4, 3, 4, 3, 4), (0, 0, 1, 0, 1, 0)))
        self.bad(net, 3, ("way", (3, 4, 3, 4), (0, 0, 1, 0)))
        self.good(net, 2, ("ring", (3, 4, 3, 4), (1, 0, 1, 0)))
        self.bad(net, 3, ("ring", (3, 4, 3, 4), (1, 0, 1, 0)))

    def test_held(self):
        self.bad(HELD, 0, None)
        self.bad(HELD, 1, ("way", (4,), (0,)))
        self.bad(("net", (), (("s", 0, 2),), (), (), ()), 0, None)

    def test_wrong_copies(self):
        counted = {True: 0, False: 0}
        for seed in range(400):
            source = random.Random(seed)
            net = random_net(source, source.randrange(3), source.randrange(5), source.randrange(1, 12), 2)
            if held_of(net):
                continue
            clock, _, bar = least_clock(net)
            for _ in range(8):
                other = bar
                number = clock + source.choice((0, 0, 0, -1, 1))
                if source.randrange(2):
                    other = changed(source, other)
                if source.randrange(4) == 0:
                    at = source.choice((1, 2))
                    other = other[:at] + (relisted(source, other[at]),) + other[at + 1:]
                if source.randrange(6) == 0:
                    other = (source.choice(("way", "ring", "")),) + other[1:]
                told = judge_bar(net, number, other)
                self.assertIs(told, slow_judge_bar(net, number, other), (net, number, other))
                counted[told] += 1
        self.assertGreater(min(counted.values()), 200)

    def test_a_bar_bars(self):
        """If a bar is taken, no lag paper has a clock below."""
        for seed in range(200):
            source = random.Random(seed)
            net = random_net(source, 1, source.randrange(1, 4), 3, 2)
            if held_of(net):
                continue
            least = min(slow_clock(net, lags) for lags in all_papers(net, 3))
            first = 2 + len(net[2])
            for _ in range(40):
                many = source.randrange(1, 4)
                bar = (source.choice(("way", "ring")), tuple(source.randrange(first, first + 3) for _ in range(many)),
                       tuple(source.randrange(2) for _ in range(many)))
                for clock in range(1, 6):
                    if judge_bar(net, clock, bar):
                        self.assertLessEqual(clock, least)


if __name__ == "__main__":
    unittest.main()
