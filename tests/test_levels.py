"""Least levels, and bar papers."""
import itertools
import random
import unittest

from beatfabric.bars import judge_level_bars, level_bars
from beatfabric.covering import cover_of
from beatfabric.levels import levels
from beatfabric.netof import net_of
from tests.mutants import changed, relisted
from tests.netmaking import any_mixed_net, is_plain, random_net, random_tidy_net
from tests.test_covers import grown_cover, slow_judge, slow_levels
from tests.test_netof import SHAPES, small_graph


def slow_least_levels(net, k):
    """By all sets of at most k leaves of each and."""
    first = 1 + len(net[1]) + len(net[2])
    cuts = {node: {frozenset([node])} for node in range(1, first)}
    least = {node: 0 for node in range(1, first)}
    for node, (left, right) in enumerate(net[3], first):
        cuts[node] = {a | b for a in cuts[left // 2] for b in cuts[right // 2] if len(a | b) <= k}
        least[node] = 1 + min(max(least[leaf] for leaf in cut) for cut in cuts[node])
        cuts[node].add(frozenset([node]))
    return tuple(least[first + at] for at in range(len(net[3])))


def slow_judge_bars(net, k, told, bars):
    """The words of the document, one by one."""
    first = 1 + len(net[1]) + len(net[2])
    if len(told) != len(net[3]) or len(bars) != len(net[3]) or any(level < 1 for level in told):
        return False

    def level(node):
        return 0 if node < first else told[node - first]

    for at, part in enumerate(bars):
        node = first + at
        if told[at] == 1:
            if part != ():
                return False
            continue
        if len(part) != k + 1:
            return False
        for path in part:
            if len(path) == 0 or path[-1] != node or path[0] not in range(1, first):
                return False
            for low, high in zip(path, path[1:]):
                if high not in range(first, first + len(net[3])):
                    return False
                if low not in [x // 2 for x in net[3][high - first]]:
                    return False
        for one, other in itertools.combinations(part, 2):
            if any(level(shared) <= told[at] - 2 for shared in set(one) & set(other)):
                return False
    return True


def tree(many):
    """An and of so many inputs, one after the other."""
    inputs = tuple(f"i{at}" for at in range(many))
    ands = ((2, 4),) + tuple((2 * (2 + at), 2 * (many + at)) for at in range(1, many - 1))
    return ("net", inputs, (), ands, (("y", 2 * (2 * many - 1)),), ())


class LevelsTest(unittest.TestCase):
    def test_empty(self):
        for k in (2, 3, 4):
            for net in (("net", (), (), (), (), ()), ("net", ("a",), (("r", 0, 2),), (), (("y", 3),), ())):
                self.assertEqual(levels(net, k), ())
                self.assertEqual(level_bars(net, k), ())
                self.assertIs(judge_level_bars(net, k, (), ()), True)

    def test_by_hand(self):
        self.assertEqual(levels(tree(2), 2), (1,))
        self.assertEqual(levels(tree(5), 2), (1, 2, 3, 4))
        self.assertEqual(levels(tree(5), 3), (1, 1, 2, 2))
        self.assertEqual(levels(tree(8), 4), (1, 1, 1, 2, 2, 2, 3))
        # Registers count as inputs do; the exclusive or of two inputs has level 1.
        net = ("net", ("a",), (("r", 0, 2),), ((2, 5), (3, 4), (7, 9)), (("y", 10),), ())
        self.assertEqual(levels(net, 2), (1, 1, 1))

    def test_shared_leaves(self):
        """Many ands over few leaves stay on the level of the leaves and one more."""
        many = 400
        ands = ((2, 4),) + tuple((2 + 4 * (at & 1) + (at >> 1 & 1), 2 * (4 + at) + 1) for at in range(many))
        net = ("net", ("a", "b", "c"), (), ands, (("y", 2 * (4 + many)),), ())
        self.assertEqual(levels(net, 3), (1,) * (many + 1))
        self.assertEqual(levels(net, 4), (1,) * (many + 1))

    def test_random(self):
        highest = 0
        for seed in range(250):
            source = random.Random(seed)
            for net in (
                random_tidy_net(source, source.randrange(1, 9), source.randrange(4), source.randrange(70), 6),
                any_mixed_net(source, 8, 4, 70),
            ):
                for k in (2, 3, 4):
                    told = levels(net, k)
                    self.assertEqual(told, slow_least_levels(net, k))
                    self.assertEqual(levels(net, k), told)
                    self.assertIs(is_plain(told), True)
                    highest = max(highest, max(told, default=0))
        self.assertGreater(highest, 6)

    def test_no_cover_has_less(self):
        """Entries of any cover have at least the least levels."""
        for seed in range(100):
            source = random.Random(seed)
            net = random_tidy_net(source, source.randrange(1, 6), source.randrange(3), source.randrange(25), 4)
            first = 1 + len(net[1]) + len(net[2])
            for k in (2, 3, 4):
                told = levels(net, k)
                for _ in range(6):
                    cover = grown_cover(source, net, k)
                    if slow_judge(net, k, cover):
                        for literal, level in slow_levels(cover).items():
                            if literal // 2 >= first:
                                self.assertGreaterEqual(level, told[literal // 2 - first])


class BarsTest(unittest.TestCase):
    NET = tree(5)
    LEVELS = (1, 2, 3, 4)
    BARS = level_bars(NET, 2)

    def good(self, told, bars, k=2, net=NET):
        self.assertIs(judge_level_bars(net, k, told, bars), True)

    def bad(self, told, bars, k=2, net=NET):
        self.assertIs(judge_level_bars(net, k, told, bars), False)

    def test_right(self):
        self.good(self.LEVELS, self.BARS)
        self.assertEqual(self.BARS[0], ())
        self.assertEqual(sorted(self.BARS[1]), [(1, 6, 7), (2, 6, 7), (3, 7)])
        self.good((1, 1, 1, 1), ((), (), (), ()))
        self.good((1, 2, 2, 2), ((), self.BARS[1], ((3, 7, 8), (2, 6, 7, 8), (4, 8)), ((3, 7, 8, 9), (4, 8, 9), (5, 9))))

    def test_levels(self):
        for level in (0, -1, 3, 4, 1000000, -1000000):
            self.bad((1, level) + self.LEVELS[2:], self.BARS)
            self.bad((level,) + self.LEVELS[1:], self.BARS)
        self.bad((1, 1, 3, 4), self.BARS)
        self.bad((2, 2, 3, 4), self.BARS)
        self.bad((0, 0, 0, 0), ((), (), (), ()))

    def test_lengths(self):
        self.bad(self.LEVELS[:3], self.BARS)
        self.bad(self.LEVELS, self.BARS[:3])
        self.bad(self.LEVELS[:3], self.BARS[:3])
        self.bad(self.LEVELS + (1,), self.BARS + ((),))
        self.bad((), ())
        self.bad(self.LEVELS, ())
        self.bad((1, 1, 1, 1), ())
        self.bad((), self.BARS)

    def test_numbers_of_paths(self):
        for part in ((), self.BARS[1][:2], self.BARS[1] + self.BARS[1][:1], self.BARS[1][:1] * 3, self.BARS[1] * 2):
            self.bad(self.LEVELS, (self.BARS[0], part) + self.BARS[2:])
        self.bad((1, 1, 3, 4), ((), self.BARS[1]) + self.BARS[2:])
        self.bad(self.LEVELS, self.BARS, 3)
        self.bad(self.LEVELS, self.BARS, 4)

    def test_paths(self):
        rest = self.BARS[2:]
        for path in (
            (), (7,), (1,), (1, 7), (2, 7), (6, 7), (0, 6, 7), (1, 6), (1, 6, 7, 8), (3, 8), (4, 7), (7, 7), (3, 7, 7),
            (3, 3, 7), (3, 6, 7), (-1, 7), (3, -1, 7), (3, 1000000, 7), (1000000, 7), (-1000000, 7), (7, 3), (1, 2, 7),
            (3, 10), (3, 7, 10),
        ):
            part = ((1, 6, 7), (2, 6, 7), path)
            self.bad(self.LEVELS, ((), part) + rest)
            self.bad(self.LEVELS, ((), part[::-1]) + rest)
        self.good(self.LEVELS, ((), ((3, 7), (2, 6, 7), (1, 6, 7))) + rest)

    def test_shared_nodes(self):
        """Nodes up to the level less 2 stand in one path only, those above it in any."""
        self.bad(self.LEVELS, ((), ((1, 6, 7), (1, 6, 7), (3, 7))) + self.BARS[2:])
        net = tree(4)
        self.good((1, 2, 3), ((), ((1, 5, 6), (2, 5, 6), (3, 6)), ((1, 5, 6, 7), (3, 6, 7), (4, 7))), 2, net)
        self.bad((1, 2, 3), ((), ((1, 5, 6), (2, 5, 6), (3, 6)), ((1, 5, 6, 7), (2, 5, 6, 7), (4, 7))), 2, net)
        self.good((1, 2, 2), ((), ((1, 5, 6), (2, 5, 6), (3, 6)), ((1, 5, 6, 7), (2, 5, 6, 7), (4, 7))), 2, net)

    def test_the_finder(self):
        highest = 0
        for seed in range(150):
            source = random.Random(seed)
            net = any_mixed_net(source, 8, 4, 60)
            for k in (2, 3, 4):
                told = levels(net, k)
                bars = level_bars(net, k)
                highest = max(highest, max(told, default=0))
                self.assertEqual(level_bars(net, k), bars)
                self.assertIs(is_plain(bars), True)
                self.assertIs(judge_level_bars(net, k, told, bars), True)
                self.assertIs(slow_judge_bars(net, k, told, bars), True)
        self.assertGreater(highest, 6)

    def test_no_greater_levels_are_taken(self):
        """A least level is not less than one that is taken: greater ones are not taken, whatever the bars are."""
        for seed in range(60):
            source = random.Random(seed)
            net = random_tidy_net(source, 4, 1, source.randrange(15), 4)
            if not net[3]:
                continue
            for k in (2, 3):
                told = levels(net, k)
                bars = level_bars(net, k)
                at = source.randrange(len(told))
                self.assertIs(judge_level_bars(net, k, told[:at] + (told[at] + 1,) + told[at + 1:], bars), False)

    def test_nets_of_graphs(self):
        for seed in range(10):
            net = net_of(small_graph(seed), SHAPES[seed])
            for k in (2, 4):
                self.assertIs(judge_level_bars(net, k, levels(net, k), level_bars(net, k)), True)
                self.assertLessEqual(len(cover_of(net, k)), 2 * (1 + len(net[1]) + len(net[2]) + len(net[3])))

    def test_wrong_copies(self):
        counted = {True: 0, False: 0}
        for seed in range(150):
            source = random.Random(seed)
            net = random_tidy_net(source, source.randrange(2, 7), source.randrange(3), source.randrange(1, 25), 4)
            k = source.choice((2, 3, 4))
            least, bars = levels(net, k), level_bars(net, k)
            for _ in range(10):
                told, other = least, bars
                if source.randrange(4) == 0:
                    told = changed(source, told)
                if source.randrange(2):
                    other = changed(source, other)
                if source.randrange(6) == 0:
                    other = relisted(source, other)
                if other and source.randrange(4) == 0:
                    at = source.randrange(len(other))
                    part = relisted(source, other[at])
                    if part and source.randrange(2):
                        part = part[:-1] + (relisted(source, part[-1]),)
                    other = other[:at] + (part,) + other[at + 1:]
                number = k if source.randrange(6) else source.choice((2, 3, 4))
                answer = judge_level_bars(net, number, told, other)
                self.assertIs(answer, slow_judge_bars(net, number, told, other), (net, number, told, other))
                counted[answer] += 1
        self.assertGreater(min(counted.values()), 200)

    def test_paths_do_not_begin_with_0(self):
        net = ("net", ("a", "b", "c"), (), ((0, 2), (4, 8), (6, 10)), (("y", 12),), ())
        bars = ((), (), ((1, 4, 5, 6), (2, 5, 6), (3, 6)))
        self.good((1, 1, 2), bars, 2, net)
        for path in ((0, 4, 5, 6), (4, 5, 6), (0, 6)):
            self.bad((1, 1, 2), ((), (), (path, (2, 5, 6), (3, 6))), 2, net)

    def test_nets_that_are_not_tidy(self):
        """The judge takes them as they are."""
        for seed in range(80):
            source = random.Random(seed)
            net = random_net(source, 3, 1, source.randrange(6))
            many = len(net[3])
            for _ in range(10):
                told = tuple(source.randrange(3) for _ in range(many))
                bars = tuple(() for _ in range(many))
                self.assertIs(judge_level_bars(net, 2, told, bars), slow_judge_bars(net, 2, told, bars))


if __name__ == "__main__":
    unittest.main()
