"""The finder of rewritings."""
import itertools
import random
import unittest

from beatfabric.netof import net_of
from beatfabric.nets import is_net
from beatfabric.rewrites import RECIPES as TOLD
from beatfabric.rewrites import rewrites
from beatfabric.rewriting import judge_rewriting, rewritten
from beatfabric.tidy import tidied
from tests.netmaking import (
    end_tables, is_cut, is_plain, mixed_net, names_of, random_tidy_net, rows_of_bits, shown,
)
from tests.test_netof import small_graph

PLAIN = [((), result) for result in range(6)]
ONE = [((step,), result) for step in itertools.product((2, 3), (4, 5)) for result in (6, 7)]
XOR = [(steps, result) for steps in (((2, 5), (3, 4), (7, 9)), ((2, 4), (3, 5), (7, 9))) for result in (10, 11)]
RECIPES = PLAIN + ONE + XOR


def ands_in_order(pairs):
    return tuple(tuple(sorted(pair)) for pair in pairs)


class RewritesTest(unittest.TestCase):
    def improved(self, net):
        """The net behind all rewritings, each of which must be taken and save an and."""
        papers = rewrites(net)
        self.assertIs(is_plain(papers), True)
        self.assertEqual(rewrites(net), papers)
        for paper in papers:
            self.assertIs(judge_rewriting(net, paper), True)
            other = rewritten(net, paper)
            self.assertLess(len(other[3]), len(net[3]))
            net = other
        return net

    def is_done(self, net):
        """No told recipe over any two leaves saves an and."""
        first = 1 + len(net[1]) + len(net[2])
        for root in range(first, first + len(net[3])):
            for pair in itertools.combinations(range(1, root), 2):
                for steps, result in RECIPES if is_cut(net, root, pair) else ():
                    paper = (root, pair, steps, result)
                    if judge_rewriting(net, paper):
                        self.assertGreaterEqual(len(rewritten(net, paper)[3]), len(net[3]), (net, paper))

    def test_nothing_to_do(self):
        for net in (
            ("net", (), (), (), (), ()),
            ("net", ("a",), (("r", 1, 2),), (), (("y", 5),), ()),
            ("net", ("a", "b"), (), ((2, 4),), (("y", 6),), ()),
            ("net", ("a", "b"), (), ((2, 5), (3, 4), (7, 9)), (("y", 10),), ()),
        ):
            self.assertEqual(rewrites(net), ())

    def test_plain_recipes(self):
        for ands, end, want in (
            (((2, 4), (3, 6)), 8, 0),            # never 1
            (((2, 4), (2, 6)), 8, 6),            # a & (a & b)
            (((2, 5), (2, 4), (7, 9)), 10, 3),   # neither a & ~b nor a & b
        ):
            net = ("net", ("a", "b"), (), ands, (("y", end),), ())
            self.assertEqual(tidied(net), net)
            other = self.improved(net)
            self.assertEqual(len(other[3]), int(want >= 6))
            self.assertEqual(other[4], (("y", want),))

    def test_an_and_in_place_of_two(self):
        net = ("net", ("a", "b"), (), ((2, 5), (2, 7)), (("y", 8),), ())
        self.assertEqual(self.improved(net), ("net", ("a", "b"), (), ((2, 4),), (("y", 6),), ()))

    def test_an_and_that_is_there(self):
        """The new and saves one only because it is there already, behind the root."""
        net = ("net", ("a", "b"), (), ((2, 5), (2, 7), (2, 4)), (("x", 6), ("y", 8), ("z", 10)), ())
        self.assertEqual(self.improved(net), ("net", ("a", "b"), (), ((2, 5), (2, 4)), (("x", 6), ("y", 8), ("z", 8)), ()))

    def test_an_and_that_saves_none(self):
        """What the and would replace is used elsewhere, too."""
        net = ("net", ("a", "b"), (), ((2, 5), (2, 7)), (("x", 6), ("y", 8)), ())
        self.assertEqual(rewrites(net), ())

    def test_xor(self):
        """Both forms of an exclusive or in one net."""
        net = ("net", ("a", "b"), (), ((2, 5), (3, 4), (7, 9), (2, 4), (3, 5), (13, 15)), (("y", 10), ("z", 16)), ())
        other = self.improved(net)
        self.assertEqual(len(other[3]), 3)
        self.assertEqual(other[4][0][1] ^ 1, other[4][1][1])

    def test_small_nets(self):
        found = 0
        for seed in range(120):
            source = random.Random(seed)
            net = random_tidy_net(source, source.randrange(1, 5), source.randrange(3), source.randrange(40), 6)
            other = self.improved(net)
            found += len(rewrites(net))
            self.is_done(other)
            self.assertIs(is_net(other), True)
            self.assertEqual(tidied(other), other)
            self.assertEqual(names_of(other), names_of(net))
            self.assertEqual(end_tables(other), end_tables(net))
        self.assertGreater(found, 60)

    def test_shared_nodes(self):
        found = 0
        for seed in range(150):
            source = random.Random(seed)
            net = mixed_net(source, source.randrange(2, 5), source.randrange(3), source.randrange(5, 50),
                            source.randrange(3, 12), source.randrange(6))
            other = self.improved(net)
            found += len(rewrites(net))
            self.is_done(other)
            self.assertEqual(names_of(other), names_of(net))
            self.assertEqual(end_tables(other), end_tables(net))
        self.assertGreater(found, 400)

    def test_all_functions_of_two_leaves(self):
        """Roots of each function, made of two ands that are alike and share nothing, or of nands."""
        for one, other in itertools.product((2, 3), (4, 5)):
            ands = [(one ^ 1, other), (one ^ 1, 7), (one, other ^ 1), (other ^ 1, 11), (9, 13)]
            net = ("net", ("a", "b"), (), ands_in_order(ands), (("t", 6), ("u", 10), ("y", 14)), ())
            self.assertEqual(tidied(net), net)
            left = self.improved(net)
            self.is_done(left)
            self.assertEqual(len(left[3]), 3)
            self.assertEqual(end_tables(left), end_tables(net))
            nands = ands_in_order([(one, other), (one, 7), (other, 7), (9, 11)])
            for more, many in (((), 3), ((("n", 6),), 3), ((("p", 8),), 4), ((("p", 8), ("q", 11)), 4)):
                for end in (12, 13):
                    net = ("net", ("a", "b"), (), nands, (("y", end),) + more, ())
                    self.assertEqual(tidied(net), net)
                    left = self.improved(net)
                    self.is_done(left)
                    self.assertLessEqual(len(left[3]), many)
                    self.assertEqual(end_tables(left), end_tables(net))

    def test_the_recipes_make_the_tables(self):
        told = []
        for table, recipes in TOLD.items():
            for steps, result in recipes:
                told.append((steps, result))
                local = [0, 10, 12]
                for left, right in steps:
                    local.append((local[left // 2] ^ 15 * (left & 1)) & (local[right // 2] ^ 15 * (right & 1)))
                self.assertEqual(local[result // 2] ^ 15 * (result & 1), table)
        self.assertEqual(sorted(told), sorted(RECIPES))

    def test_nets_of_graphs(self):
        for seed in range(12):
            net = net_of(small_graph(seed))
            other = self.improved(net)
            self.assertEqual(rewrites(other), ())
            rows = rows_of_bits(random.Random(seed), net, 10)
            self.assertEqual(shown(other, rows), shown(net, rows))

    def test_small_nets_of_operations(self):
        for op in ("add", "sub", "mul"):
            nodes = (("input", 3, 0), ("input", 3, 1), (op, 3, 0, 1))
            graph = ("graph", (("a", 3), ("b", 3)), nodes, (), (), (("y", 2),), ())
            for adder in ("ripple", "select", "prefix"):
                self.is_done(self.improved(net_of(graph, (adder, "rows", "steps", "halves"))))

    def test_many_ands(self):
        ands = ((2, 4),) + tuple((2, 2 * (3 + at) + 1) for at in range(600))
        net = ("net", ("a", "b"), (), ands, (("y", 2 * 603),), ())
        self.assertEqual(tidied(net), net)
        self.assertEqual(self.improved(net)[3], ((2, 4),))


if __name__ == "__main__":
    unittest.main()
