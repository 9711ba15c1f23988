"""The finder of bonds."""
import itertools
import random
import unittest

from beatfabric.bonding import bonds_of
from beatfabric.bonds import bonded, judge_bonds
from beatfabric.netof import net_of
from beatfabric.netruns import literal_bit, node_bits
from tests.netmaking import is_plain, random_net, rows_of_bits, shown
from tests.test_bonds import paper_of
from tests.test_netof import SHAPES, small_graph


def slow_pairs(net):
    """The least literal, of a node less than its own, to which the greatest set of ties ties each register."""
    _, inputs, regs, _, _, _ = net
    ahead = 1 + len(inputs)

    def other_side(x, row, of_nexts):
        if x < 2:
            return x
        return literal_bit(row, regs[x // 2 - ahead][2] ^ x & 1) if of_nexts else literal_bit(row, x)

    literals = [0, 1] + [2 * (ahead + at) + k for at in range(len(regs)) for k in (0, 1)]
    ties = []
    for at, (_, start, _) in enumerate(regs):
        for x in literals:
            if x // 2 != ahead + at and start == (x if x < 2 else regs[x // 2 - ahead][1] ^ x & 1):
                ties.append((at, x))
    rows = [node_bits(net, bits) for bits in itertools.product((0, 1), repeat=len(inputs) + len(regs))]
    while True:
        kept = [row for row in rows if all(row[ahead + at] == other_side(x, row, False) for at, x in ties)]
        left = [(at, x) for at, x in ties
                if all(literal_bit(row, regs[at][2]) == other_side(x, row, True) for row in kept)]
        if left == ties:
            break
        ties = left
    found = {}
    for at, x in ties:
        if x // 2 < ahead + at and (at not in found or x // 2 < found[at] // 2):
            found[at] = x
    return sorted(found.items())


def pairs_of(net):
    return [bond[:2] for bond in bonds_of(net)]


class BondingTest(unittest.TestCase):
    def test_nothing_to_do(self):
        for net in (
            ("net", (), (), (), (), ()), ("net", ("a", "b"), (), ((2, 4),), (("y", 6),), ()),
            ("net", ("a",), (("r", 0, 2),), (), (), ()), ("net", ("a",), (("r", 0, 2), ("s", 1, 2)), (), (), ()),
        ):
            self.assertEqual(bonds_of(net), ())

    def test_ties_to_0(self):
        net = ("net", (), (("p", 0, 2), ("q", 1, 4), ("r", 0, 7), ("s", 1, 8)), (), (), ())
        self.assertEqual(pairs_of(net), [(0, 0), (1, 1), (3, 1)])
        net = ("net", (), (("p", 1, 1), ("q", 0, 1), ("r", 1, 0)), (), (), ())
        self.assertEqual(pairs_of(net), [(0, 1), (2, 5)])
        net = ("net", (), (("r", 0, 3), ("s", 1, 5)), (), (), ())
        self.assertEqual(pairs_of(net), slow_pairs(net))

    def test_inverted_ties(self):
        net = ("net", ("a",), (("p", 0, 2), ("q", 1, 3), ("r", 1, 3), ("s", 0, 5)), (), (), ())
        self.assertEqual(pairs_of(net), [(1, 5), (2, 5)])

    def test_rings(self):
        net = ("net", ("a",), (("p", 0, 10), ("q", 0, 8), ("r", 0, 6), ("s", 0, 4)), (), (), ())
        self.assertEqual(pairs_of(net), [(0, 0), (1, 0), (2, 0), (3, 0)])
        net = ("net", ("a",), (("p", 0, 5), ("q", 1, 7), ("r", 1, 9)), (), (), ())
        self.assertEqual(pairs_of(net), [(1, 5), (2, 5)])
        net = ("net", (), (("p", 0, 4), ("q", 1, 2), ("r", 0, 8), ("s", 1, 6)), (), (), ())
        self.assertEqual(pairs_of(net), slow_pairs(net))

    def test_lost_in_later_rounds(self):
        """Two rows of registers that begin to differ only after several beats."""
        for many in range(1, 6):
            regs = []
            for name, first in (("p", 0), ("q", 1)):
                for at in range(many):
                    follow = first if at == 0 else 2 * (len(regs))
                    regs.append((f"{name}{at}", 0, follow))
            net = ("net", (), tuple(regs), (), (), ())
            told = pairs_of(net)
            self.assertEqual(told, slow_pairs(net))
            self.assertEqual(told, [(at, 0) for at in range(many)])

    def test_the_least_node(self):
        net = ("net", ("a",), (("p", 0, 2), ("q", 0, 2), ("r", 0, 6), ("s", 0, 4), ("t", 0, 8)), (), (), ())
        self.assertEqual(pairs_of(net), [(1, 4), (3, 8)])
        self.assertEqual(pairs_of(net), slow_pairs(net))

    def test_ten_and_eleven_together(self):
        for inputs, regs in ((0, 10), (4, 6), (9, 1), (8, 2)):
            net = ("net", tuple(f"i{at}" for at in range(inputs)),
                   tuple((f"r{at}", 0, 0) for at in range(regs)), (), (), ())
            self.assertEqual(pairs_of(net), [(at, 0) for at in range(regs)])
            more = net[:1] + (net[1] + ("more",),) + net[2:]
            self.assertEqual(bonds_of(more), ())
            more = net[:2] + (net[2] + (("more", 1, 1),),) + net[3:]
            self.assertEqual(bonds_of(more), ())

    def test_counters_that_run_together(self):
        """Two counters of the same bits, one of them inverted."""
        ands = ((2, 6), (3, 7), (13, 15), (6, 2), (18, 8), (19, 9), (21, 23), (10, 3), (11, 2), (27, 29))
        net = (
            "net", ("a",), (("p", 0, 0), ("q", 0, 17), ("r", 0, 25), ("s", 1, 31)), ands, (("y", 8), ("z", 10)), (),
        )
        told = bonds_of(net)
        self.assertEqual([bond[:2] for bond in told], slow_pairs(net))
        self.assertIs(judge_bonds(net, told), True)

    def test_random(self):
        many = 0
        for seed in range(400):
            source = random.Random(seed)
            net = random_net(source, source.randrange(3), source.randrange(1, 6), source.randrange(10), 3)
            paper = bonds_of(net)
            self.assertEqual(bonds_of(net), paper)
            self.assertIs(is_plain(paper), True)
            self.assertEqual([bond[:2] for bond in paper], slow_pairs(net))
            self.assertIs(judge_bonds(net, paper), True)
            many += len(paper)
            rows = rows_of_bits(source, net, 15)
            self.assertEqual(shown(bonded(net, paper), rows), shown(net, rows))
        self.assertGreater(many, 300)

    def test_no_other_paper_bonds_more(self):
        for seed in range(150):
            source = random.Random(seed)
            net = random_net(source, 1, 3, source.randrange(6), 2)
            bound = [bond[0] for bond in bonds_of(net)]
            choices = [[None, 0, 1] + [2 * (2 + other) + k for other in range(at) for k in (0, 1)] for at in range(3)]
            for row in itertools.product(*choices):
                pairs = [(at, x) for at, x in enumerate(row) if x is not None]
                if any(at not in bound for at, _ in pairs):
                    paper = paper_of(net, pairs)
                    self.assertIs(paper is None or not judge_bonds(net, paper), True, (net, pairs))

    def test_nets_of_graphs(self):
        found = 0
        for seed in range(60):
            net = net_of(small_graph(seed), SHAPES[seed % len(SHAPES)])
            paper = bonds_of(net)
            if len(net[1]) + len(net[2]) > 10:
                self.assertEqual(paper, ())
                continue
            found += 1
            self.assertIs(judge_bonds(net, paper), True)
            rows = rows_of_bits(random.Random(seed), net, 20)
            self.assertEqual(shown(bonded(net, paper), rows), shown(net, rows))
        self.assertGreater(found, 0)


if __name__ == "__main__":
    unittest.main()
