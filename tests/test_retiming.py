"""Retimed nets."""
import itertools
import random
import unittest

from beatfabric.errors import Held
from beatfabric.lags import clock_of, judge_lags
from beatfabric.leastclock import least_clock
from beatfabric.netof import net_of
from beatfabric.netruns import NetRun
from beatfabric.nets import heights, is_net
from beatfabric.retiming import retimed
from beatfabric.tidy import tidied
from beatfabric.traces import held_of
from tests.lagging import all_papers, greatest_lags, shape_of, slow_retimed
from tests.netmaking import any_mixed_net, is_plain, mixed_net, random_net, rows_of_bits, shown
from tests.test_netof import SHAPES, small_graph


class RetimedTest(unittest.TestCase):
    def check(self, net, lags, rows):
        """What holds of every retimed net; compares what is shown; returns it."""
        self.assertIs(judge_lags(net, lags), True)
        other = retimed(net, lags)
        self.assertEqual(retimed(net, lags), other)
        self.assertIs(is_net(other) and is_plain(other), True)
        self.assertEqual(tidied(other), other)
        self.assertEqual(other[1], net[1])
        for at in (4, 5):
            self.assertEqual([name for name, _ in other[at]], [name for name, _ in net[at]])
        self.assertLessEqual(len(other[3]), len(net[3]))
        self.assertLessEqual(max(heights(other)), clock_of(net, lags))
        self.assertEqual(shown(other, rows), shown(net, rows))
        return other

    def regs_of(self, net):
        return sorted((start, follow) for _, start, follow in net[2])

    def test_no_ands(self):
        """Only what outputs and claims read is made; a row of two registers once."""
        net = ("net", ("a",), (("p", 1, 2), ("q", 0, 4), ("r", 1, 6)), (), (("y", 6), ("z", 3), ("x", 6)), (("c", 4),))
        other = self.check(net, (), [(1,), (0,), (1,), (1,)])
        self.assertEqual(self.regs_of(other), [(0, 4), (1, 2)])
        self.assertEqual(shape_of(other), shape_of(slow_retimed(net, ())))

    def test_empty(self):
        net = ("net", (), (), (), (), ())
        self.assertEqual(retimed(net, ()), net)
        net = ("net", ("a",), (("p", 1, 2),), (), (), ())
        self.assertEqual(retimed(net, ()), ("net", ("a",), (), (), (), ()))

    def test_lags_of_0(self):
        net = ("net", ("a", "b"), (("p", 1, 2), ("q", 0, 5)), ((6, 8),), (("y", 10),), ())
        self.assertEqual(self.regs_of(retimed(net, (0,))), [(0, 5), (1, 2)])

    def test_one_register_in_place_of_two(self):
        """The and moves ahead of the registers; the one behind it starts with the and's bit."""
        for one, other in itertools.product((0, 1), repeat=2):
            net = ("net", ("a", "b"), (("p", one, 2), ("q", other, 5)), ((6, 8),), (("y", 10),), (("c", 11),))
            told = self.check(net, (1,), [(0, 0), (1, 0), (0, 1), (1, 1)])
            self.assertEqual([row[1:] for row in told[2]], [(one & other, 10), ((one & other) ^ 1, 11)])
            self.assertEqual(told[3], ((2, 5),))

    def test_inverted_literals(self):
        """Where an inverted literal is read, its registers contain inverted bits."""
        net = ("net", ("a", "b"), (("p", 1, 2),), ((4, 7),), (("y", 7), ("z", 6), ("x", 8)), ())
        told = retimed(net, (0,))
        self.assertEqual(self.regs_of(told), [(0, 3), (1, 2)])
        self.assertEqual(shape_of(told), shape_of(slow_retimed(net, (0,))))

    def test_a_row_that_several_ands_share(self):
        net = (
            "net", ("a", "b"), (("p", 1, 2), ("q", 0, 6), ("r", 0, 8)), ((4, 10), (5, 10), (4, 8), (5, 6), (5, 11)),
            tuple((f"y{at}", 2 * (6 + at)) for at in range(5)), (),
        )
        told = retimed(net, (0,) * 5)
        self.assertEqual(shape_of(told), shape_of(slow_retimed(net, (0,) * 5)))
        self.assertEqual(shown(told, [(1, 0), (0, 1), (1, 1)] * 3), shown(net, [(1, 0), (0, 1), (1, 1)] * 3))

    def test_rows_from_0(self):
        net = ("net", ("a",), (("p", 1, 1), ("q", 0, 4), ("r", 1, 7)), ((2, 8),), (("y", 10), ("z", 6)), ())
        told = self.check(net, (0,), [(1,)] * 6)
        self.assertEqual(shape_of(told), shape_of(slow_retimed(net, (0,))))

    def test_names_of_inputs(self):
        """No register gets the name of an input."""
        names = ("r0", "r1", "r", "0", "r2", "q0", "q1", "reg0", "s0", "r0'")
        regs = tuple((f"p{at}", at & 1, 2 * (1 + at)) for at in range(10))
        outputs = tuple((f"y{at}", 2 * (11 + at)) for at in range(10))
        told = retimed(("net", names, regs, (), outputs, ()), ())
        self.assertIs(is_net(told), True)
        self.assertEqual(len(told[2]), 10)

    def test_again_and_again(self):
        net = net_of(small_graph(8))
        for _ in range(3):
            if held_of(net):
                break
            other = retimed(net, (0,) * len(net[3]))
            rows = rows_of_bits(random.Random(1), net, 10)
            self.assertEqual(shown(other, rows), shown(net, rows))
            net = other

    def test_held(self):
        net = ("net", ("a",), (("p", 0, 2), ("s", 0, 6)), ((2, 4),), (("y", 8),), ())
        with self.assertRaises(Held) as caught:
            retimed(net, (0,))
        self.assertEqual(caught.exception.name, "s")

    def test_all_papers_of_small_nets(self):
        """Which registers are made, and with what they start, but for names and order."""
        many = 0
        for seed in range(300):
            source = random.Random(seed)
            net = random_net(source, source.randrange(3), source.randrange(5), source.randrange(5), 3)
            if held_of(net):
                continue
            rows = rows_of_bits(source, net, 12)
            for lags in all_papers(net, 2):
                many += 1
                told = self.check(net, lags, rows)
                self.assertEqual(shape_of(told), shape_of(slow_retimed(net, lags)), (net, lags))
        self.assertGreater(many, 300)

    def test_all_inputs_from_the_starts_on(self):
        for seed in range(60):
            source = random.Random(seed)
            net = mixed_net(source, 2, source.randrange(1, 5), 10)
            if held_of(net):
                continue
            for lags in (least_clock(net)[1], greatest_lags(net, 4)):
                other = retimed(net, lags)
                for row in itertools.product(itertools.product((0, 1), repeat=2), repeat=4):
                    self.assertEqual(list(NetRun(other).beats(row)), list(NetRun(net).beats(row)))

    def test_larger_nets(self):
        many = 0
        for seed in range(60):
            source = random.Random(seed)
            net = any_mixed_net(source, 4, 6, 30)
            if held_of(net):
                continue
            rows = rows_of_bits(source, net, 15)
            for lags in (least_clock(net)[1], greatest_lags(net, 3)):
                many += any(lags)
                told = self.check(net, lags, rows)
                self.assertEqual(shape_of(told), shape_of(slow_retimed(net, lags)))
        self.assertGreater(many, 20)

    def test_nets_of_graphs(self):
        many = 0
        for seed in range(40):
            net = net_of(small_graph(seed), SHAPES[seed % len(SHAPES)])
            if held_of(net):
                continue
            many += 1
            rows = rows_of_bits(random.Random(seed), net, 10)
            for lags in ((0,) * len(net[3]), least_clock(net)[1], greatest_lags(net, 3)):
                self.check(net, lags, rows)
        self.assertGreater(many, 2)


if __name__ == "__main__":
    unittest.main()
