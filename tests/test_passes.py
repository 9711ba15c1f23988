"""The six passes."""
import itertools
import random
import unittest

from beatfabric.balance import balanced
from beatfabric.bonding import bonds_of
from beatfabric.bonds import bonded
from beatfabric.leastclock import least_clock
from beatfabric.merges import merged
from beatfabric.nets import heights, is_net
from beatfabric.passes import passed
from beatfabric.retiming import retimed
from beatfabric.rewrites import rewrites
from beatfabric.rewriting import rewritten
from beatfabric.sweeping import merges_of
from beatfabric.tidy import bared, tidied
from beatfabric.traces import held_of
from tests.netmaking import any_mixed_net, is_plain, names_of, random_tidy_net, rows_of_bits, shown

WORDS = ("bare", "sweep", "bond", "rewrite", "balance", "retime")


def by_papers(net, word):
    if word == "bare":
        return bared(net)
    if word == "sweep":
        return merged(net, merges_of(net))
    if word == "bond":
        return bonded(net, bonds_of(net))
    if word == "rewrite":
        for paper in rewrites(net):
            net = rewritten(net, paper)
        return net
    if word == "balance":
        return balanced(net)
    return net if held_of(net) else retimed(net, least_clock(net)[1])


def some_nets(many=60):
    for seed in range(many):
        source = random.Random(seed)
        if seed % 3 == 0:
            yield source, random_tidy_net(source, source.randrange(5), source.randrange(5))
        else:
            yield source, any_mixed_net(source, regs=3)


class PassesTest(unittest.TestCase):
    def test_by_hand(self):
        net = ("net", ("a",), (("p", 0, 2), ("q", 0, 2), ("r", 1, 3)), ((4, 6),), (("y", 10),), ())
        self.assertEqual(passed(net, "bare"), ("net", ("a",), (("p", 0, 2), ("q", 0, 2)), ((4, 6),), (("y", 8),), ()))
        self.assertEqual(passed(net, "bond"), ("net", ("a",), (("p", 0, 2),), (), (("y", 4),), ()))
        net = ("net", ("a", "b"), (), ((2, 4), (3, 4), (7, 9)), (("y", 11),), ())
        self.assertEqual(passed(net, "sweep"), ("net", ("a", "b"), (), (), (("y", 4),), ()))
        self.assertEqual(passed(net, "rewrite"), ("net", ("a", "b"), (), (), (("y", 4),), ()))
        net = ("net", tuple("abcd"), (), ((2, 4), (6, 10), (8, 12)), (("y", 14),), ())
        self.assertEqual(max(heights(passed(net, "balance"))), 2)

    def test_retiming(self):
        """Registers ahead of two ands that follow each other: two of them become one between the ands."""
        regs = (("p", 0, 2), ("q", 0, 4), ("r", 0, 6))
        net = ("net", tuple("abc"), regs, ((8, 10), (12, 14)), (("y", 16),), ())
        self.assertEqual(tidied(net), net)
        self.assertEqual(max(heights(net)), 2)
        other = passed(net, "retime")
        self.assertEqual(max(heights(other)), 1)
        self.assertEqual(len(other[2]), 2)
        rows = rows_of_bits(random.Random(1), net, 30)
        self.assertEqual(shown(other, rows), shown(net, rows))

    def test_a_held_register(self):
        """Then nothing is retimed."""
        net = ("net", ("a", "b"), (("h", 0, 6), ("r", 0, 10)), ((2, 4), (6, 10)), (("y", 8), ("z", 12)), ())
        self.assertEqual(held_of(net), ("h",))
        self.assertEqual(passed(net, "retime"), net)
        ring = ("net", (), (("p", 0, 4), ("q", 1, 2)), (), (("y", 2),), ())
        self.assertEqual(passed(ring, "retime"), ring)

    def test_nothing(self):
        for net in (("net", (), (), (), (), ()), ("net", ("a",), (), (), (("y", 2),), (("c", 1),))):
            for word in WORDS:
                self.assertEqual(passed(net, word), net)

    def test_random(self):
        held = 0
        for source, net in some_nets():
            rows = rows_of_bits(source, net, 15)
            told = shown(net, rows)
            held += len(held_of(net)) > 0
            for word in WORDS:
                other = passed(net, word)
                self.assertEqual(other, by_papers(net, word))
                self.assertEqual(passed(net, word), other)
                self.assertIs(is_plain(other) and is_net(other), True)
                self.assertEqual(tidied(other), other)
                self.assertEqual(shown(other, rows), told)
                self.assertLessEqual(len(other[3]), len(net[3]))
                if word != "retime":
                    self.assertLessEqual(len(other[2]), len(net[2]))
                if word in ("sweep", "rewrite", "balance"):
                    self.assertEqual(names_of(other), names_of(net))
        self.assertGreater(held, 5)

    def test_two_in_a_row(self):
        for source, net in some_nets(12):
            rows = rows_of_bits(source, net, 15)
            told = shown(net, rows)
            for one, other in itertools.product(WORDS, repeat=2):
                behind = passed(passed(net, one), other)
                self.assertEqual(tidied(behind), behind)
                self.assertEqual(shown(behind, rows), told)


if __name__ == "__main__":
    unittest.main()
