"""Lag papers: the judge, the clock."""
import random
import unittest

from beatfabric.errors import Held
from beatfabric.lags import clock_of, judge_lags
from beatfabric.netof import net_of
from beatfabric.nets import heights
from beatfabric.traces import held_of
from tests.lagging import all_papers, greatest_lags, slow_clock, slow_judge_lags
from tests.mutants import changed, relisted
from tests.netmaking import random_net
from tests.test_netof import small_graph

# Nodes: inputs 1 and 2, registers 3 (of input 1), 4 (of 3), 5 (of and 6), ands 6, 7, 8.
NET = (
    "net", ("a", "b"), (("p", 0, 2), ("q", 1, 7), ("r", 0, 13)), ((6, 8), (10, 12), (14, 9)), (("y", 16),), (),
)
HELD = ("net", ("a",), (("p", 0, 2), ("s", 0, 6)), ((2, 4),), (("y", 8),), ())


class JudgeTest(unittest.TestCase):
    def good(self, lags, net=NET):
        self.assertIs(judge_lags(net, lags), True, lags)

    def bad(self, lags, net=NET):
        self.assertIs(judge_lags(net, lags), False, lags)

    def test_right(self):
        self.good((0, 0, 0))
        self.good((1, 1, 1))
        self.good((1, 0, 0))
        self.good((0, 0, 0))
        self.bad((0, 1, 0))
        self.bad((0, 0, 1))
        self.bad((2, 0, 0))
        self.good((), ("net", (), (), (), (), ()))
        self.good((), ("net", ("a",), (("r", 0, 2),), (), (), ()))

    def test_numbers(self):
        for lag in (-1, -2, -1000000, 2, 3, 1000000):
            self.bad((lag, 0, 0))
            self.bad((0, lag, 0))
            self.bad((0, 0, lag))

    def test_lengths(self):
        for lags in ((), (0,), (0, 0), (0, 0, 0, 0), (0,) * 100):
            self.bad(lags)
        self.bad((0,), ("net", (), (), (), (), ()))

    def test_rows_of_registers(self):
        net = ("net", ("a",), (("p", 0, 2), ("q", 0, 4), ("r", 1, 6)), ((4, 8), (6, 10), (0, 12)), (), ())
        self.good((1, 1, 0), net)
        self.bad((2, 0, 0), net)
        self.bad((1, 2, 0), net)
        self.bad((0, 1, 0), net)
        self.bad((0, 0, 1), net)
        self.bad((1, 1, 1), net)

    def test_rings_without_inputs(self):
        """Nothing but the ring itself bounds these lags."""
        net = ("net", (), (("r", 1, 4),), ((2, 3),), (), ())
        for lag in (0, 1, 5, 1000000):
            self.good((lag,), net)
        self.bad((-1,), net)

    def test_held(self):
        self.bad((0,), HELD)
        self.bad((), HELD)
        self.bad((), ("net", (), (("r", 0, 2),), (), (), ()))
        with self.assertRaises(Held) as caught:
            clock_of(HELD, (0,))
        self.assertEqual(caught.exception.name, "s")

    def test_as_great_as_they_can_be(self):
        for seed in range(150):
            source = random.Random(seed)
            net = random_net(source, 2, source.randrange(5), source.randrange(1, 8))
            if held_of(net):
                continue
            lags = greatest_lags(net, 50)
            self.assertIs(slow_judge_lags(net, lags), True)
            self.good(lags, net)
            for at, lag in enumerate(lags):
                if lag < 30:
                    self.bad(lags[:at] + (lag + 1,) + lags[at + 1:], net)
                self.bad(lags[:at] + (-1,) + lags[at + 1:], net)

    def test_wrong_copies(self):
        counted = {True: 0, False: 0}
        for seed in range(300):
            source = random.Random(seed)
            net = random_net(source, 2, source.randrange(1, 6), source.randrange(1, 6))
            if held_of(net):
                continue
            lags = source.choice((greatest_lags(net, 3), (0,) * len(net[3])))
            for _ in range(8):
                other = tuple(min(lag, source.randrange(3)) for lag in lags)
                if source.randrange(3) == 0:
                    other = changed(source, other)
                if source.randrange(5) == 0:
                    other = relisted(source, other)
                told = judge_lags(net, other)
                self.assertIs(told, slow_judge_lags(net, other))
                counted[told] += 1
        self.assertGreater(min(counted.values()), 100)


class ClockTest(unittest.TestCase):
    def test_by_hand(self):
        self.assertEqual(clock_of(NET, (0, 0, 0)), 3)
        self.assertEqual(clock_of(NET, (1, 0, 0)), 2)
        self.assertEqual(clock_of(NET, (1, 1, 1)), 3)
        self.assertEqual(clock_of(("net", ("a",), (("r", 0, 2),), (), (("y", 4),), ()), ()), 0)

    def test_ands_that_nothing_reads_count(self):
        net = ("net", ("a",), (), ((2, 2), (4, 4), (6, 6)), (("y", 2),), ())
        self.assertEqual(clock_of(net, (0, 0, 0)), 3)

    def test_equal_and_simple_ands_count(self):
        net = ("net", ("a",), (("r", 0, 2),), ((1, 4), (4, 1), (0, 6), (8, 8)), (("y", 2),), ())
        self.assertEqual(clock_of(net, (0, 0, 0, 0)), 2)

    def test_through_registers_that_are_taken_away(self):
        """An and behind a register is directly behind what stands ahead of it, if the lags say so."""
        net = ("net", ("a",), (("p", 0, 2), ("r", 0, 8)), ((2, 4), (4, 6)), (("y", 10),), ())
        self.assertEqual(clock_of(net, (0, 0)), 1)
        self.assertEqual(clock_of(net, (0, 1)), 2)

    def test_all_papers(self):
        for seed in range(150):
            source = random.Random(seed)
            net = random_net(source, source.randrange(3), source.randrange(5), source.randrange(1, 5))
            if held_of(net):
                continue
            for lags in all_papers(net, 2):
                self.assertIs(judge_lags(net, lags), True)
                told = clock_of(net, lags)
                self.assertEqual(told, slow_clock(net, lags))
                self.assertEqual(clock_of(net, lags), told)

    def test_heights(self):
        for seed in range(20):
            net = net_of(small_graph(seed))
            if not held_of(net):
                self.assertEqual(clock_of(net, (0,) * len(net[3])), max(heights(net)))

    def test_deep(self):
        ands = tuple((2 * (1 + at), 2) for at in range(4000))
        net = ("net", ("a",), (), ands, (), ())
        self.assertIs(judge_lags(net, (0,) * 4000), True)
        self.assertEqual(clock_of(net, (0,) * 4000), 4000)


if __name__ == "__main__":
    unittest.main()
