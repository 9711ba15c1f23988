"""Merge papers: the judge, and the merged net."""
import random
import unittest

from beatfabric.merges import judge_merges, merged
from beatfabric.nets import is_net
from beatfabric.refuting import refutation
from beatfabric.sweeping import merges_of
from beatfabric.tidy import tidied
from tests.mutants import changed, relisted
from tests.netmaking import end_tables, is_plain, names_of, node_tables, random_net, rows_of_bits, shown
from tests.refutations import slow_judge, wrong_refutations

# Node 3 is a & b, 4 is b & ~(~a) by two steps, 5 and 6 are opposite, 7 is always 0.
NET = (
    "net", ("a", "b"), (), ((2, 4), (4, 6), (3, 5), (7, 7), (6, 10)), (("y", 8), ("z", 13), ("x", 14)), (),
)


def merge_of(net, node, literal):
    """The merge of a node with a literal, with refutations."""
    first = refutation(net, (), (2 * node, literal ^ 1))
    second = refutation(net, (), (2 * node + 1, literal))
    if first[0] != "refuted" or second[0] != "refuted":
        return None
    return (node, literal, first[1], second[1])


def slow_judge_merges(net, paper):
    """The words of the document, one by one."""
    first = 1 + len(net[1]) + len(net[2])
    nodes = [merge[0] for merge in paper]
    if nodes != sorted(set(nodes)) or any(node not in range(first, first + len(net[3])) for node in nodes):
        return False
    for node, literal, steps, others in paper:
        if literal not in range(2 * node):
            return False
        if not slow_judge(net, (), (2 * node, literal ^ 1), steps):
            return False
        if not slow_judge(net, (), (2 * node + 1, literal), others):
            return False
    return True


def random_merges(source, net):
    """A paper of merges with any literals of nodes ahead, not only the least ones."""
    tables = node_tables(net)
    full = (1 << (1 << len(net[1]) + len(net[2]))) - 1
    first = 1 + len(net[1]) + len(net[2])
    paper = []
    for node in range(first, len(tables)):
        same = [2 * at for at in range(node) if tables[at] == tables[node]]
        same += [2 * at + 1 for at in range(node) if tables[at] ^ full == tables[node]]
        if same and source.randrange(4):
            paper.append(merge_of(net, node, source.choice(same)))
    return tuple(paper)


class JudgeTest(unittest.TestCase):
    MERGE = merge_of(NET, 4, 6)

    def good(self, *paper):
        self.assertIs(judge_merges(NET, paper), True)

    def bad(self, *paper):
        self.assertIs(judge_merges(NET, paper), False)

    def test_right(self):
        self.good()
        self.good(self.MERGE)
        self.good(merge_of(NET, 6, 7), merge_of(NET, 7, 0))
        self.good(self.MERGE, merge_of(NET, 6, 9), merge_of(NET, 7, 0))
        self.assertIs(judge_merges(("net", (), (), (), (), ()), ()), True)

    def test_order(self):
        self.bad(merge_of(NET, 7, 0), merge_of(NET, 6, 7))
        self.bad(self.MERGE, self.MERGE)
        self.bad(self.MERGE, merge_of(NET, 6, 7), self.MERGE)

    def test_nodes(self):
        for node in (0, 1, 2, 8, -1, -4, 1000000, -1000000):
            self.bad((node,) + self.MERGE[1:])
            self.bad((node, 0, ((),), ((),)))

    def test_literals(self):
        for literal in (7, 8, 9, -1, -2, 16, 1000000, -1000000, 4, 0):
            self.bad((4, literal) + self.MERGE[2:])
        self.bad((5, 11, ((),), ((),)))
        self.bad((5, 10, ((),), ((),)))
        self.bad((4, 10) + self.MERGE[2:])

    def test_a_node_ahead(self):
        """A literal of a node behind is not taken, even if it is alike."""
        net = ("net", ("a", "b"), (), ((2, 4), (2, 4)), (), ())
        self.assertIs(judge_merges(net, ((3, 8, ((),), ((),)),)), False)
        self.assertIs(judge_merges(net, ((4, 6, ((),), ((),)),)), True)

    def test_refutations(self):
        ands = ((2, 4), (2, 5), (3, 4), (3, 5), (7, 9), (11, 13), (14, 16))
        net = ("net", ("a", "b"), (), ands, (("y", 18),), ())
        merge = merge_of(net, 9, 0)
        self.assertIs(judge_merges(net, (merge,)), True)
        self.assertGreater(len(merge[2]), 1)
        node, literal, steps, others = merge
        self.assertIs(judge_merges(net, ((node, literal, others, steps),)), False)
        for at, told in ((2, steps), (3, others)):
            for wrong in wrong_refutations(told, 20):
                paper = merge[:at] + (wrong,) + merge[at + 1:]
                self.assertIs(judge_merges(net, (paper,)), False, wrong[:3])

    def test_nothing_is_given(self):
        """A merge does not help another one."""
        net = ("net", ("a", "b"), (), ((2, 4), (2, 5), (7, 9), (3, 11), (3, 10)), (("y", 14),), ())
        paper = ((5, 3, ((),), ((),)),)
        self.assertIs(judge_merges(net, paper), slow_judge_merges(net, paper))
        paper = (merge_of(net, 5, 3), (6, 0, ((),), ((),)))
        self.assertIs(judge_merges(net, paper), slow_judge_merges(net, paper))

    def test_wrong_copies(self):
        counted = {True: 0, False: 0}
        for seed in range(120):
            source = random.Random(seed)
            net = random_net(source, source.randrange(1, 4), source.randrange(3), source.randrange(2, 12))
            paper = random_merges(source, net)
            self.assertIs(judge_merges(net, paper), True)
            for _ in range(6):
                other = changed(source, paper)
                if source.randrange(3) == 0:
                    other = relisted(source, other)
                if other and source.randrange(3) == 0:
                    merge = other[0]
                    at = source.choice((2, 3))
                    other = (merge[:at] + (relisted(source, merge[at]),) + merge[at + 1:],) + other[1:]
                told = judge_merges(net, other)
                self.assertIs(told, slow_judge_merges(net, other), (net, other))
                counted[told] += 1
        self.assertGreater(min(counted.values()), 60)


class MergedTest(unittest.TestCase):
    def test_chains_of_merges(self):
        """Each node becomes what the literal of its merge has become."""
        paper = (merge_of(NET, 4, 6), merge_of(NET, 6, 9), merge_of(NET, 7, 0))
        self.assertEqual(merged(NET, paper), ("net", ("a", "b"), (), ((2, 4),), (("y", 6), ("z", 6), ("x", 0)), ()))

    def test_one_merge(self):
        self.assertEqual(merged(NET, (merge_of(NET, 6, 7),)), (
            "net", ("a", "b"), (), ((2, 4), (4, 6), (3, 5), (6, 10)), (("y", 8), ("z", 6), ("x", 12)), (),
        ))

    def test_the_empty_paper(self):
        for seed in range(20):
            net = random_net(random.Random(seed))
            self.assertEqual(merged(net, ()), tidied(net))

    def test_a_node_makes_no_and(self):
        net = ("net", ("a", "b"), (), ((2, 4), (2, 6), (2, 8)), (("y", 10),), ())
        self.assertEqual(merged(net, (merge_of(net, 5, 6),)), ("net", ("a", "b"), (), ((2, 4),), (("y", 6),), ()))

    def test_random(self):
        many = 0
        for seed in range(150):
            source = random.Random(seed)
            net = random_net(source, source.randrange(1, 5), source.randrange(3), source.randrange(2, 20))
            for paper in (random_merges(source, net), merges_of(net)):
                many += len(paper)
                self.assertIs(judge_merges(net, paper), True)
                other = merged(net, paper)
                self.assertEqual(merged(net, paper), other)
                self.assertIs(is_net(other) and is_plain(other), True)
                self.assertEqual(tidied(other), other)
                self.assertEqual(names_of(other), names_of(net))
                self.assertLessEqual(len(other[3]), len(tidied(net)[3]))
                self.assertEqual(end_tables(other), end_tables(net))
                rows = rows_of_bits(source, net, 6)
                self.assertEqual(shown(other, rows), shown(net, rows))
        self.assertGreater(many, 500)


if __name__ == "__main__":
    unittest.main()
