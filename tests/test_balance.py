"""Least heights, and balanced nets."""
import random
import unittest

from beatfabric.balance import balanced, least_heights
from beatfabric.netof import net_of
from beatfabric.nets import heights, is_net
from beatfabric.tidy import tidied
from tests.netmaking import any_mixed_net, end_tables, is_plain, names_of, random_tidy_net, rows_of_bits, shown
from tests.test_netof import SHAPES, small_graph


def chain(many, more=()):
    """An and of many inputs, one after the other."""
    inputs = tuple(f"i{at}" for at in range(many))
    ands = []
    last = 2
    for at in range(1, many):
        ands.append(tuple(sorted((2 * (1 + at), last))))
        last = 2 * (many + at)
    return ("net", inputs, (), tuple(ands), (("y", last),) + more, ())


def slow_least(net):
    """The words of the document, one by one."""
    first = 1 + len(net[1]) + len(net[2])
    many = first + len(net[3])
    places = {node: [] for node in range(many)}
    for pair in net[3]:
        for x in pair:
            places[x // 2].append(("and", x & 1))
    for x in [x for _, x in net[4] + net[5]] + [x for _, _, x in net[2]]:
        places[x // 2].append(("end", x & 1))
    inner = [node for node in range(first, many) if places[node] == [("and", 0)]]

    def leaves(node):
        found = []
        for x in net[3][node - first]:
            found += leaves(x // 2) if x // 2 in inner and x & 1 == 0 else [x]
        return found

    told = []
    for node in range(many):
        if node in inner:
            told.append(None)
        elif node < first:
            told.append(0)
        else:
            different = set(leaves(node))
            if any(x ^ 1 in different for x in different):
                told.append(0)
                continue
            total = sum(2 ** told[x // 2] for x in different)
            height = 0
            while 2 ** height < total:
                height += 1
            told.append(height)
    return tuple(told)


def ends_of(net):
    return [x for _, x in net[4] + net[5]] + [x for _, _, x in net[2]]


class LeastHeightsTest(unittest.TestCase):
    def test_chains(self):
        for many in range(2, 40):
            net = chain(many)
            height = (many - 1).bit_length()
            self.assertEqual(least_heights(net), (0,) * (many + 1) + (None,) * (many - 2) + (height,))
            other = balanced(net)
            self.assertEqual(max(heights(other)), height)
            self.assertEqual(len(other[3]), many - 1)

    def test_used_twice(self):
        """An and with two uses is a head: its height counts."""
        net = ("net", ("a", "b", "c", "d"), (), ((2, 4), (6, 10), (8, 12)), (("y", 14), ("z", 10)), ())
        self.assertEqual(least_heights(net), (0, 0, 0, 0, 0, 1, None, 2))
        net = ("net", ("a", "b", "c"), (), ((2, 4), (6, 8), (7, 8)), (("y", 10), ("z", 12)), ())
        self.assertEqual(least_heights(net), (0, 0, 0, 0, 1, 2, 2))

    def test_used_inverted(self):
        net = ("net", ("a", "b", "c", "d"), (), ((2, 4), (6, 11), (8, 12)), (("y", 14),), ())
        self.assertEqual(least_heights(net), (0, 0, 0, 0, 0, 1, None, 2))

    def test_used_by_ends(self):
        ands = ((2, 4), (6, 10))
        regs = (("r", 0, 10),)
        self.assertEqual(least_heights(("net", ("a", "b", "c"), regs, ands, (("y", 12),), ())), (0, 0, 0, 0, 0, 1, 2))
        ands = ((2, 4), (6, 8))
        for more, claims in ((("z", 8),), ()), ((), (("c", 8),)), ((("z", 9),), ()):
            net = ("net", ("a", "b", "c"), (), ands, (("y", 10),) + more, claims)
            self.assertEqual(least_heights(net), (0, 0, 0, 0, 1, 2))

    def test_leaves_that_stand_twice(self):
        """a & b, with a & c: three different leaves of four."""
        net = ("net", ("a", "b", "c"), (), ((2, 4), (2, 6), (8, 10)), (("y", 12),), ())
        self.assertEqual(least_heights(net), (0, 0, 0, 0, None, None, 2))
        self.assertEqual(len(balanced(net)[3]), 2)
        net = ("net", ("a", "b"), (), ((2, 4), (2, 6)), (("y", 8),), ())
        self.assertEqual(least_heights(net), (0, 0, 0, None, 1))
        self.assertEqual(balanced(net), ("net", ("a", "b"), (), ((2, 4),), (("y", 6),), ()))

    def test_a_leaf_and_its_inverse(self):
        net = ("net", ("a", "b", "c"), (), ((2, 4), (3, 6), (8, 10), (7, 12)), (("y", 14), ("z", 13)), ())
        self.assertEqual(least_heights(net), (0, 0, 0, 0, None, None, 0, 1))
        self.assertEqual(balanced(net), ("net", ("a", "b", "c"), (), (), (("y", 0), ("z", 1)), ()))

    def test_inverse_leaves_of_different_heights(self):
        """The inverse leaf is high up, so that pairs of low leaves come ahead of it."""
        net = (
            "net", ("a", "b", "c", "d"), (), ((2, 4), (3, 5), (11, 13), (6, 14), (8, 15), (16, 18)),
            (("y", 20), ("z", 14)), (),
        )
        self.assertEqual(least_heights(net)[-1], 0)
        self.assertEqual(balanced(net)[4][0], ("y", 0))

    def test_random(self):
        for seed in range(300):
            source = random.Random(seed)
            for net in (
                random_tidy_net(source, source.randrange(1, 5), source.randrange(4), source.randrange(60), 6),
                any_mixed_net(source, 8),
            ):
                told = least_heights(net)
                self.assertEqual(told, slow_least(net))
                self.assertEqual(least_heights(net), told)
                self.assertIs(is_plain(told), True)


class BalancedTest(unittest.TestCase):
    def check(self, net):
        other = balanced(net)
        self.assertEqual(balanced(net), other)
        self.assertIs(is_net(other) and is_plain(other), True)
        self.assertEqual(tidied(other), other)
        self.assertEqual(names_of(other), names_of(net))
        self.assertLessEqual(len(other[3]), len(net[3]))
        least = least_heights(net)
        rows = heights(other)
        for x, y in zip(ends_of(net), ends_of(other)):
            self.assertLessEqual(rows[y // 2], least[x // 2])
        return other

    def test_empty(self):
        for net in (("net", (), (), (), (), ()), ("net", ("a",), (("r", 1, 3),), (), (("y", 1),), (("c", 4),))):
            self.assertEqual(balanced(net), net)
            self.assertEqual(least_heights(net), (0,) * (1 + len(net[1]) + len(net[2])))

    def test_random(self):
        for seed in range(300):
            source = random.Random(seed)
            for net in (
                random_tidy_net(source, source.randrange(1, 5), source.randrange(4), source.randrange(60), 6),
                any_mixed_net(source, 5, 3),
            ):
                other = self.check(net)
                self.assertEqual(end_tables(other), end_tables(net))
                rows = rows_of_bits(source, net, 6)
                self.assertEqual(shown(other, rows), shown(net, rows))

    def test_nets_of_graphs(self):
        for seed in range(25):
            net = net_of(small_graph(seed), SHAPES[seed % len(SHAPES)])
            other = self.check(net)
            rows = rows_of_bits(random.Random(seed), net, 8)
            self.assertEqual(shown(other, rows), shown(net, rows))

    def test_a_chain_with_taps(self):
        net = chain(12, (("z", 2 * 15), ("x", 2 * 18 + 1)))
        self.assertEqual(tidied(net), net)
        self.check(net)

    def test_deep(self):
        net = chain(4000)
        other = self.check(net)
        self.assertEqual(max(heights(other)), 12)


if __name__ == "__main__":
    unittest.main()
