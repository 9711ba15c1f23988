"""The finder of merges."""
import random
import unittest

from beatfabric.merges import judge_merges, merged
from beatfabric.netof import net_of
from beatfabric.nets import support
from beatfabric.sweeping import merges_of
from tests.netmaking import any_mixed_net, is_plain, node_tables, random_net, rows_of_bits, shown
from tests.test_netof import SHAPES, small_graph
from tests.test_refuting import parity


def slow_pairs(net):
    """For each and the literal of the least node ahead of it that it is like, by the words of the document."""
    tables = node_tables(net)
    full = (1 << (1 << len(net[1]) + len(net[2]))) - 1
    supports = [set(support(net, (node,))) for node in range(len(tables))]
    found = []
    for node in range(1 + len(net[1]) + len(net[2]), len(tables)):
        for other in range(node):
            if len(supports[node] | supports[other]) <= 8:
                if tables[node] == tables[other]:
                    found.append((node, 2 * other))
                    break
                if tables[node] == tables[other] ^ full:
                    found.append((node, 2 * other + 1))
                    break
    return found


def pairs_of(net):
    return [merge[:2] for merge in merges_of(net)]


class SweepingTest(unittest.TestCase):
    def test_nothing_to_do(self):
        for net in (("net", (), (), (), (), ()), ("net", ("a", "b"), (("r", 1, 6),), ((2, 4), (2, 5)), (), ())):
            self.assertEqual(merges_of(net), ())

    def test_alike_to_0(self):
        net = ("net", ("a", "b"), (), ((2, 4), (3, 6), (9, 1), (0, 2)), (), ())
        self.assertEqual(pairs_of(net), [(4, 0), (5, 1), (6, 0)])

    def test_alike_to_an_input(self):
        net = ("net", ("a", "b"), (("r", 0, 0),), ((2, 4), (2, 5), (9, 11), (13, 13), (13, 6)), (), ())
        self.assertEqual(pairs_of(net), [(6, 3), (7, 2)])

    def test_opposite_and_alike(self):
        """An exclusive or, in both forms, and its inverse."""
        net = ("net", ("a", "b"), (), ((2, 5), (3, 4), (7, 9), (2, 4), (3, 5), (13, 15), (10, 10)), (), ())
        self.assertEqual(pairs_of(net), [(8, 11), (9, 10)])

    def test_the_least_node(self):
        net = ("net", ("a", "b"), (), ((2, 4), (4, 2), (2, 8), (6, 8)), (), ())
        self.assertEqual(pairs_of(net), [(4, 6), (5, 6), (6, 6)])

    def test_eight_and_nine_in_two_supports(self):
        for many, split in ((2, 1), (7, 3), (8, 4), (8, 2)):
            net, left, right = parity(many, split)
            self.assertIn((right // 2, left ^ (right & 1)), pairs_of(net))
        net, left, right = parity(9, 4)
        self.assertNotIn(right // 2, [node for node, _ in pairs_of(net)])

    def test_supports_together(self):
        """Both nodes have 8 numbers, but 9 together, though only one counts."""
        inputs = tuple(f"i{at}" for at in range(9))

        def wide(ands, inputs_used):
            """An and of a literal of 1 that has a support: ~(x & y & .. & ~x)."""
            last = 2 * inputs_used[0]
            for at in inputs_used[1:]:
                ands.append((2 * at, last))
                last = 2 * (9 + len(ands))
            ands.append((2 * inputs_used[0] + 1, last))
            return 2 * (9 + len(ands)) + 1

        for second, taken in (((2, 3, 4, 5, 6, 7, 8), True), ((3, 4, 5, 6, 7, 8, 9), False)):
            ands = []
            one = wide(ands, (2, 3, 4, 5, 6, 7, 8))
            ands.append((2, one))
            first = 9 + len(ands)
            other = wide(ands, second)
            ands.append((2, other))
            last = 9 + len(ands)
            net = ("net", inputs, (), tuple(ands), (), ())
            self.assertEqual(len(support(net, (first,))), 8)
            self.assertEqual(len(support(net, (last,))), 8)
            pairs = dict(pairs_of(net))
            # Both are alike to the input with which they begin.
            self.assertEqual(pairs[first], 2)
            self.assertEqual(pairs[last], 2)
            # Without this input ahead, by an and of it and another one, the supports together decide.
            ands.append((4, 2 * first))
            ands.append((4, 2 * last))
            net = ("net", inputs, (), tuple(ands), (), ())
            pairs = dict(pairs_of(net))
            self.assertEqual(pairs.get(9 + len(ands)), 2 * (8 + len(ands)) if taken else None)
            self.assertEqual(pairs_of(net), slow_pairs(net))

    def test_supports_are_those_of_the_net_that_is_passed(self):
        """A node with a support of 9 stays, though a merge ahead of it makes its support less."""
        inputs = tuple(f"i{at}" for at in range(10))
        ands = [(2, 3)]
        last = 22
        for at in range(2, 11):
            ands.append((2 * at, last))
            last = 2 * (10 + len(ands))
        net = ("net", inputs, (), tuple(ands), (("y", last),), ())
        pairs = pairs_of(net)
        self.assertEqual(pairs, [(11 + at, 0) for at in range(8)])
        self.assertEqual(pairs, slow_pairs(net))

    def test_small_nets(self):
        many = 0
        for seed in range(150):
            source = random.Random(seed)
            net = random_net(source, source.randrange(1, 7), source.randrange(5), source.randrange(40), 6)
            if seed % 2:
                net = any_mixed_net(source, 6, 4, 50)
            paper = merges_of(net)
            many += len(paper)
            self.assertEqual(merges_of(net), paper)
            self.assertIs(is_plain(paper), True)
            self.assertEqual([merge[:2] for merge in paper], slow_pairs(net))
            self.assertIs(judge_merges(net, paper), True)
            for node, literal, steps, others in paper:
                bound = 2 ** (len(support(net, (node, literal // 2))) + 1)
                self.assertLessEqual(max(len(steps), len(others)), bound)
            other = merged(net, paper)
            if len(net[1]) + len(net[2]) <= 8:
                self.assertEqual(merges_of(other), ())
        self.assertGreater(many, 800)

    def test_nets_of_graphs(self):
        for seed in range(15):
            net = net_of(small_graph(seed), SHAPES[seed])
            paper = merges_of(net)
            self.assertIs(judge_merges(net, paper), True)
            rows = rows_of_bits(random.Random(seed), net, 8)
            self.assertEqual(shown(merged(net, paper), rows), shown(net, rows))

    def test_two_multipliers(self):
        nodes = (("input", 4, 0), ("input", 4, 1), ("mul", 4, 0, 1), ("mul", 4, 1, 0), ("xor", 4, 2, 3))
        graph = ("graph", (("a", 4), ("b", 4)), nodes, (), (), (("y", 4),), ())
        for shapes in SHAPES[::5]:
            net = net_of(graph, shapes)
            paper = merges_of(net)
            self.assertIs(judge_merges(net, paper), True)
            self.assertEqual(merged(net, paper)[3:], ((), tuple((f"y:{at}", 0) for at in range(4)), ()))


if __name__ == "__main__":
    unittest.main()
