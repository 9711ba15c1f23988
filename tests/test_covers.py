"""Covers: the judge, the depth, the finder."""
import random
import unittest

from beatfabric.covering import cover_of
from beatfabric.covers import depth_of, judge_cover
from beatfabric.levels import levels
from beatfabric.netof import net_of
from beatfabric.nets import is_net
from beatfabric.tidy import tidied
from tests.mutants import changed, relisted
from tests.netmaking import any_mixed_net, is_cut, is_plain, random_net, random_tidy_net
from tests.test_netof import SHAPES, small_graph

# Inputs 1 to 3, register 4, ands 5 to 8; ends 16, 13, 3, 8.
NET = (
    "net", ("a", "b", "c"), (("r", 1, 13),), ((2, 4), (6, 11), (8, 10), (13, 14)), (("y", 16), ("z", 3)), (("k", 8),),
)
COVER = ((3, (2,)), (10, (2, 4)), (13, (6, 10)), (16, (8, 10, 13)))


def ends_of(net):
    return [x for _, x in net[4] + net[5]] + [x for _, _, x in net[2]]


def slow_judge(net, k, cover):
    """The words of the document, one by one."""
    first = 1 + len(net[1]) + len(net[2])
    plain = [2 * node for node in range(1, first)]
    literals = [literal for literal, _ in cover]
    if literals != sorted(set(literals)):
        return False
    if any(literal not in range(2 * (first + len(net[3]))) or literal in plain for literal in literals):
        return False
    for literal, leaves in cover:
        nodes = [leaf // 2 for leaf in leaves]
        if len(leaves) > k or list(leaves) != sorted(leaves) or len(set(nodes)) < len(nodes) or 0 in nodes:
            return False
        for leaf in leaves:
            if leaf not in plain and leaf not in literals:
                return False
            if leaf // 2 > literal // 2:
                return False
            if leaf // 2 == literal // 2 and not (leaf % 2 == 0 and literal % 2 == 1):
                return False
        if not is_cut(net, literal // 2, nodes):
            return False
    ends = ends_of(net)
    if any(end not in plain and end not in literals for end in ends):
        return False
    for literal, leaves in cover:
        if literal not in ends and not any(literal in others for other, others in cover if other != literal):
            return False
    return True


def slow_levels(cover):
    found = {}
    for literal, leaves in cover:
        found[literal] = 1 + max([found.get(leaf, 0) for leaf in leaves], default=0)
    return found


def grown_cover(source, net, k):
    """A cover that is right, made from the ends on by random leaves."""
    first = 1 + len(net[1]) + len(net[2])
    entries = {}
    for end in ends_of(net):
        if end % 2 or not 0 < end // 2 < first:
            entries[end] = None
    for literal in reversed(range(2 * (first + len(net[3])))):
        if literal not in entries:
            continue
        node = literal // 2
        if node == 0:
            leaves = []
        elif node < first or (literal % 2 and source.randrange(4) == 0):
            leaves = [node]
        else:
            leaves = sorted({x // 2 for x in net[3][node - first]} - {0})
            for _ in range(source.randrange(5)):
                inner = [leaf for leaf in leaves if leaf >= first]
                if not inner:
                    break
                leaf = source.choice(inner)
                more = sorted((set(leaves) - {leaf} | {x // 2 for x in net[3][leaf - first]}) - {0})
                if len(more) > k:
                    break
                leaves = more
            others = [other for other in range(1, node) if other not in leaves]
            if len(leaves) < k and others and source.randrange(6) == 0:
                leaves = sorted(leaves + [source.choice(others)])
        chosen = []
        for leaf in leaves:
            one = 2 * leaf + (source.randrange(2) if leaf >= first and leaf < node else 0)
            chosen.append(one)
            if leaf >= first and one not in entries:
                entries[one] = None
        entries[literal] = tuple(chosen)
    return tuple(sorted(entries.items()))


class JudgeTest(unittest.TestCase):
    def good(self, cover, k=3, net=NET):
        self.assertIs(judge_cover(net, k, cover), True, cover)

    def bad(self, cover, k=3, net=NET):
        self.assertIs(judge_cover(net, k, cover), False, cover)

    def with_entry(self, at, literal, leaves):
        return COVER[:at] + ((literal, leaves),) + COVER[at + 1:]

    def test_right(self):
        self.good(COVER)
        self.good(COVER, 4)
        self.bad(COVER, 2)
        self.good(((3, (2,)), (10, (2, 4)), (13, (6, 10)), (14, (8, 10)), (16, (13, 14))), 2)
        self.good(((3, (2,)), (10, (2, 4)), (11, (10,)), (13, (6, 11)), (16, (8, 10, 13))))
        self.good((), 2, ("net", (), (), (), (), ()))
        self.good((), 2, ("net", ("a",), (("r", 0, 4),), (), (("y", 2),), ()))
        self.good(((13, (2, 4, 6)), (3, (2,)))[::-1] + ((16, (2, 4, 6, 8)),), 4)

    def test_order(self):
        self.bad(COVER[::-1])
        self.bad(COVER[:2] + COVER[1:])
        self.bad((COVER[1], COVER[0]) + COVER[2:])

    def test_literals(self):
        for literal in (-1, -2, 18, 19, 1000000, -1000000):
            self.bad(COVER + ((literal, (2, 4)),))
            self.bad(((literal, (2, 4)),) + COVER)
        self.bad(((2, ()),) + COVER)
        self.bad(((2, (2,)),) + COVER)
        self.bad(COVER[:1] + ((8, (2,)),) + COVER[1:])

    def test_needed_entries(self):
        """Each end has an entry, each entry is an end or a leaf."""
        self.bad(COVER[1:])
        self.bad(COVER[:3])
        self.bad(COVER[:2] + COVER[3:])
        self.bad(COVER[:3] + ((14, (8, 10)),) + COVER[3:])
        self.bad(COVER[:1] + ((5, (4,)),) + COVER[1:])
        self.bad(((0, ()),) + COVER)

    def test_leaves(self):
        for leaves in (
            (4, 2), (2, 2, 4), (2, 3, 4), (0, 2, 4), (1, 2, 4), (2, 4, 18), (-2, 2, 4), (-1, 2, 4), (2, 4, 1000000),
            (2,), (4,), (), (2, 5), (3, 4, 6, 8), (2, 4, 10), (2, 4, 11), (2, 4, 13), (2, 4, 16), (2, 4, 6, 8), (2, 9),
        ):
            self.bad(self.with_entry(1, 10, leaves))
        self.good(self.with_entry(1, 10, (2, 4, 6)))
        self.good(self.with_entry(1, 10, (2, 4, 8)))

    def test_leaves_that_are_not_needed(self):
        """Leaves that are not met are allowed."""
        self.good(((3, (2,)), (13, (2, 4, 6, 8)), (16, (2, 4, 8, 13))), 4)
        self.good(((3, (2,)), (13, (2, 4, 6)), (16, (2, 4, 8, 13))), 4)
        self.bad(((3, (2,)), (13, (2, 4, 6)), (16, (2, 4, 13))), 4)

    def test_inverted_inputs(self):
        net = ("net", ("a", "b"), (("r", 0, 3),), (), (("y", 7), ("z", 5)), ())
        self.good(((3, (2,)), (5, (4,)), (7, (6,))), 2, net)
        self.bad(((3, (2,)), (5, (4,))), 2, net)
        for leaves in ((), (4,), (3,), (2, 4), (5,), (7,)):
            self.bad(((3, leaves), (5, (4,)), (7, (6,))), 2, net)
        self.good(((3, (2,)), (5, (2, 4)), (7, (4, 6))), 2, net)
        self.good(((3, (2,)), (5, (3, 4)), (7, (5, 6))), 2, net)

    def test_constants(self):
        net = ("net", ("a",), (), (), (("y", 0), ("z", 1)), ())
        self.good(((0, ()), (1, ())), 2, net)
        self.bad(((0, ()),), 2, net)
        self.bad(((0, ()), (1, (0,))), 2, net)
        self.bad(((0, ()), (1, (2,))), 2, net)
        self.bad(((0, (2,)), (1, ())), 2, net)

    def test_both_literals_of_a_node(self):
        net = ("net", ("a", "b"), (), ((2, 4),), (("y", 6), ("z", 7)), ())
        self.good(((6, (2, 4)), (7, (2, 4))), 2, net)
        self.good(((6, (2, 4)), (7, (6,))), 2, net)
        self.bad(((6, (7,)), (7, (2, 4))), 2, net)
        self.bad(((6, (7,)), (7, (6,))), 2, net)
        self.bad(((6, (6,)), (7, (2, 4))), 2, net)
        self.bad(((6, (2, 4)), (7, (7,))), 2, net)
        self.good(((6, (2, 4)), (7, (4, 6))), 2, net)

    def test_constants_below(self):
        net = ("net", ("a",), (), ((0, 2), (1, 5)), (("y", 6),), ())
        self.bad(((6, ()),), 2, net)
        self.good(((6, (2,)),), 2, net)
        net = ("net", ("a",), (), ((0, 1), (1, 5)), (("y", 6),), ())
        self.good(((6, ()),), 2, net)

    def test_sizes(self):
        net = ("net", tuple("abcdef"), (), ((2, 4), (6, 8), (14, 16), (10, 12), (18, 20)), (("y", 22),), ())
        for k, leaves in ((2, (18, 20)), (3, (10, 12, 18)), (4, (10, 12, 14, 16))):
            parts = {10: None, 12: None, 14: (2, 4), 16: (6, 8), 18: (14, 16), 20: (10, 12)}
            entries = {22: leaves}
            for literal in (20, 18, 16, 14):
                if any(literal in found for found in entries.values()):
                    entries[literal] = parts[literal]
            cover = tuple(sorted(entries.items()))
            for other in (2, 3, 4):
                self.assertIs(judge_cover(net, other, cover), len(leaves) <= other)

    def test_wrong_copies(self):
        counted = {True: 0, False: 0}
        for seed in range(250):
            source = random.Random(seed)
            net = random_net(source, source.randrange(1, 5), source.randrange(3), source.randrange(12), 4)
            k = source.choice((2, 3, 4))
            cover = grown_cover(source, net, k)
            self.assertIs(judge_cover(net, k, cover), slow_judge(net, k, cover))
            for _ in range(8):
                other = cover
                if source.randrange(4):
                    other = changed(source, other)
                if source.randrange(5) == 0:
                    other = relisted(source, other)
                if other and source.randrange(3) == 0:
                    at = source.randrange(len(other))
                    other = other[:at] + ((other[at][0], relisted(source, other[at][1])),) + other[at + 1:]
                number = k if source.randrange(4) else source.choice((2, 3, 4))
                told = judge_cover(net, number, other)
                self.assertIs(told, slow_judge(net, number, other), (net, number, other))
                counted[told] += 1
        self.assertGreater(min(counted.values()), 200)


class DepthTest(unittest.TestCase):
    def test_by_hand(self):
        self.assertEqual(depth_of(NET, COVER), 3)
        self.assertEqual(depth_of(NET, ((3, (2,)), (13, (2, 4, 6)), (16, (2, 4, 8, 13)))), 2)
        self.assertEqual(depth_of(("net", (), (), (), (), ()), ()), 0)
        self.assertEqual(depth_of(("net", ("a",), (), (), (("y", 1),), ()), ((1, ()),)), 1)
        net = ("net", ("a", "b"), (), ((2, 4),), (("y", 7),), ())
        self.assertEqual(depth_of(net, ((7, (2, 4)),)), 1)
        self.assertEqual(depth_of(net, ((6, (2, 4)), (7, (6,)))), 2)

    def test_random(self):
        taken = 0
        for seed in range(200):
            source = random.Random(seed)
            net = random_net(source, 3, 2, source.randrange(20), 4)
            cover = grown_cover(source, net, 4)
            if judge_cover(net, 4, cover):
                taken += 1
                self.assertEqual(depth_of(net, cover), max(slow_levels(cover).values(), default=0))
        self.assertGreater(taken, 150)


class CoveringTest(unittest.TestCase):
    def check(self, net, k):
        cover = cover_of(net, k)
        self.assertEqual(cover_of(net, k), cover)
        self.assertIs(is_plain(cover), True)
        self.assertIs(judge_cover(net, k, cover), True)
        first = 1 + len(net[1]) + len(net[2])
        found = slow_levels(cover)
        least = levels(net, k)
        for end in ends_of(net):
            if end // 2 >= first:
                self.assertEqual(found[end], least[end // 2 - first])
            elif end in found:
                self.assertEqual(found[end], 1)
        self.assertEqual(depth_of(net, cover), max([found[end] for end in ends_of(net) if end in found], default=0))
        self.assertLessEqual(len(cover), 2 * (first + len(net[3])))
        return cover

    def test_by_hand(self):
        for k in (2, 3, 4):
            self.check(NET, k)
            self.assertEqual(self.check(("net", (), (), (), (), ()), k), ())
            self.assertEqual(self.check(("net", ("a",), (("r", 0, 2),), (), (("y", 4),), ()), k), ())
            net = ("net", ("a",), (("r", 0, 5),), (), (("y", 3), ("z", 0)), (("c", 1),))
            self.assertEqual(self.check(net, k), ((0, ()), (1, ()), (3, (2,)), (5, (4,))))

    def test_both_literals_of_a_node(self):
        """Both have the least level, neither is made of the other."""
        net = ("net", ("a", "b"), (), ((2, 4),), (("y", 6), ("z", 7)), ())
        for k in (2, 3, 4):
            self.assertEqual(slow_levels(self.check(net, k)), {6: 1, 7: 1})

    def test_an_inverted_input_that_is_an_end(self):
        """It is no leaf of an and, for then the and would be a level higher."""
        net = ("net", ("a", "b"), (), ((3, 5),), (("y", 3), ("z", 5), ("x", 6)), ())
        for k in (2, 3, 4):
            self.assertEqual(self.check(net, k), ((3, (2,)), (5, (4,)), (6, (2, 4))))

    def test_random(self):
        for seed in range(200):
            source = random.Random(seed)
            for net in (
                random_tidy_net(source, source.randrange(1, 9), source.randrange(4), source.randrange(60), 6),
                any_mixed_net(source, 8, 4, 70),
            ):
                for k in (2, 3, 4):
                    self.check(net, k)

    def test_the_least_depth_of_all_covers(self):
        for seed in range(150):
            source = random.Random(seed)
            net = any_mixed_net(source, 5, 2, 30)
            for k in (2, 3, 4):
                depth = depth_of(net, self.check(net, k))
                for _ in range(10):
                    other = grown_cover(source, net, k)
                    if judge_cover(net, k, other):
                        self.assertLessEqual(depth, depth_of(net, other))

    def test_nets_of_graphs(self):
        for seed in range(10):
            net = net_of(small_graph(seed), SHAPES[seed])
            for k in (2, 4):
                self.check(net, k)

    def test_deep(self):
        many = 600
        ands = ((2, 4),) + tuple((2 + 4 * (at & 1) + (at >> 1 & 1), 2 * (4 + at) + 1) for at in range(many - 1))
        net = tidied(("net", ("a", "b", "c"), (), ands, (("y", 2 * (3 + many)),), ()))
        self.assertIs(is_net(net), True)
        self.check(net, 2)


if __name__ == "__main__":
    unittest.main()
