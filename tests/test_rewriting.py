"""Rewritings: the judge, and the rewritten net."""
import itertools
import random
import unittest

from beatfabric.nets import is_net
from beatfabric.rewriting import judge_rewriting, rewritten
from beatfabric.tidy import tidied
from tests.mutants import changed, relisted
from tests.netmaking import end_tables, is_plain, names_of, random_net, random_tidy_net, rows_of_bits, shown

# Nodes 1 to 3 are inputs, 4 is a register.
NET = (
    "net", ("a", "b", "c"), (("r", 0, 17),), ((2, 4), (3, 5), (11, 13), (14, 6), (8, 10)),
    (("y", 14), ("z", 16)), (("k", 18),),
)


def slow_bit(net, node, leaves, bits):
    """The bit of a node for bits of leaves, None if an input or register is met that is no leaf."""
    if node in leaves:
        return bits[leaves.index(node)]
    first = 1 + len(net[1]) + len(net[2])
    if node == 0:
        return 0
    if node < first:
        return None
    told = []
    for x in net[3][node - first]:
        bit = slow_bit(net, x // 2, leaves, bits)
        if bit is None:
            return None
        told.append(bit ^ x & 1)
    return told[0] & told[1]


def slow_judge(net, paper):
    """The words of the document, one by one."""
    root, leaves, steps, result = paper
    first = 1 + len(net[1]) + len(net[2])
    if root not in range(first, first + len(net[3])) or len(leaves) not in (1, 2, 3, 4) or len(steps) > 8:
        return False
    if list(leaves) != sorted(set(leaves)) or any(leaf not in range(1, root) for leaf in leaves):
        return False
    for at, step in enumerate(steps):
        if any(x not in range(2 * (1 + len(leaves) + at)) for x in step):
            return False
    if result not in range(2 * (1 + len(leaves) + len(steps))):
        return False
    for bits in itertools.product((0, 1), repeat=len(leaves)):
        local = [0] + list(bits)
        for left, right in steps:
            local.append((local[left // 2] ^ left & 1) & (local[right // 2] ^ right & 1))
        if slow_bit(net, root, leaves, bits) != local[result // 2] ^ result & 1:
            return False
    return True


def slow_rewritten(net, paper):
    """The steps are put into a net that is not tidy, ahead of the root, which is then taken out."""
    root, leaves, steps, result = paper
    first = 1 + len(net[1]) + len(net[2])
    literals = [2 * node for node in range(first)]
    ands = []

    def moved(rows, x):
        return rows[x // 2] ^ x & 1

    for node, pair in enumerate(net[3], first):
        if node == root:
            local = [0] + [literals[leaf] for leaf in leaves]
            for step in steps:
                local.append(2 * (first + len(ands)))
                ands.append(tuple(moved(local, x) for x in step))
            literals.append(moved(local, result))
        else:
            literals.append(2 * (first + len(ands)))
            ands.append(tuple(moved(literals, x) for x in pair))
    regs = tuple((name, start, moved(literals, x)) for name, start, x in net[2])
    ends = [tuple((name, moved(literals, x)) for name, x in rows) for rows in net[4:]]
    return tidied(("net", net[1], regs, tuple(ands), ends[0], ends[1]))


def random_paper(source, net):
    """A paper that may be right: a root, nodes near it, and random steps."""
    first = 1 + len(net[1]) + len(net[2])
    root = source.randrange(first, first + len(net[3]))
    many = min(source.randrange(1, 5), root - 1)
    leaves = tuple(sorted(source.sample(range(1, root), many)))
    steps = []
    for at in range(source.choice((0, 0, 1, 1, 2, 3, 8))):
        steps.append(tuple(source.randrange(2 * (1 + many + at)) for _ in range(2)))
    return (root, leaves, tuple(steps), source.randrange(2 * (1 + many + len(steps))))


def right_paper(source, net):
    """A paper that is right: the function over some cut, by steps of its ands or by a sum of products."""
    first = 1 + len(net[1]) + len(net[2])
    root = source.randrange(first, first + len(net[3]))
    leaves = {x // 2 for x in net[3][root - first]}
    inner = [root]
    for _ in range(source.randrange(6)):
        grown = [leaf for leaf in leaves if leaf >= first]
        if not grown:
            break
        leaf = source.choice(grown)
        more = leaves - {leaf} | {x // 2 for x in net[3][leaf - first]}
        if 0 in more or len(more) > 4:
            break
        leaves = more
        inner.append(leaf)
    if 0 in leaves or len(leaves) > 4:
        return None
    order = sorted(leaves)
    local = {0: 0}
    local.update({leaf: 2 * (1 + at) for at, leaf in enumerate(order)})
    steps = []
    for node in sorted(set(inner)):
        if node in leaves:
            return None
        if any(x // 2 not in local for x in net[3][node - first]):
            return None
        steps.append(tuple(local[x // 2] ^ x & 1 for x in net[3][node - first]))
        local[node] = 2 * (len(order) + len(steps))
    return (root, tuple(order), tuple(steps), local[root])


class JudgeTest(unittest.TestCase):
    def good(self, *paper):
        self.assertIs(judge_rewriting(NET, paper), True, paper)

    def bad(self, *paper):
        self.assertIs(judge_rewriting(NET, paper), False, paper)

    def test_right(self):
        self.good(5, (1, 2), ((2, 4),), 6)
        self.good(7, (1, 2), ((2, 5), (3, 4), (7, 9)), 11)
        self.good(7, (1, 2), ((2, 4), (3, 5), (7, 9)), 10)
        self.good(7, (5, 6), ((3, 5),), 6)
        self.good(8, (1, 2, 3), ((2, 4), (3, 5), (9, 11), (12, 6)), 14)
        self.good(8, (3, 7), ((2, 4),), 6)

    def test_leaves_that_are_not_met(self):
        self.good(5, (1, 2, 3), ((2, 4),), 8)
        self.good(5, (1, 2, 4), ((2, 4),), 8)
        self.good(8, (1, 2, 3, 7), ((8, 6),), 10)
        self.bad(5, (1, 3), ((2, 4),), 6)

    def test_leaves_next_to_each_other(self):
        """A leaf stays free, though it could be told by other leaves."""
        self.good(7, (1, 5, 6), ((5, 7),), 8)
        self.good(7, (1, 2, 5), ((3, 5), (7, 9)), 10)
        self.bad(7, (1, 2, 5), ((2, 5), (3, 4), (9, 11)), 13)

    def test_steps(self):
        self.good(5, (1, 2), ((2, 4), (6, 6), (8, 8), (10, 10), (12, 12), (14, 14), (16, 16), (18, 18)), 20)
        self.bad(5, (1, 2), ((2, 4), (6, 6), (8, 8), (10, 10), (12, 12), (14, 14), (16, 16), (18, 18), (20, 20)), 22)
        self.bad(5, (1, 2), ((2, 4),), 4)
        self.bad(5, (1, 2), ((2, 4),), 8)
        self.bad(5, (1, 2), ((2, 4),), -2)
        self.bad(5, (1, 2), ((2, 6),), 6)
        self.bad(5, (1, 2), ((2, -4),), 6)
        self.bad(5, (1, 2), ((2, 1000000),), 6)

    def test_results_of_every_kind(self):
        net = ("net", ("a", "b"), (), ((2, 3), (3, 5), (2, 7), (5, 8), (2, 2)), (("y", 12),), ())
        for paper in ((3, (1,), (), 0), (3, (1, 2), (), 0), (5, (1,), (), 2), (5, (1, 2), (), 2), (7, (1,), (), 2)):
            self.assertIs(judge_rewriting(net, paper), True, paper)
        for root in (3, 5, 7):
            for result in range(6):
                want = {3: 0, 5: 2, 7: 2}[root]
                self.assertIs(judge_rewriting(net, (root, (1, 2), (), result)), result == want)
        self.assertIs(judge_rewriting(net, (6, (2, 5), ((3, 4),), 6)), False)
        self.assertIs(judge_rewriting(net, (6, (2, 5), ((3, 4),), 7)), False)
        self.assertIs(judge_rewriting(net, (6, (2, 5), ((3, 4),), 2)), False)
        self.assertIs(judge_rewriting(net, (6, (2, 5), ((3, 4), (3, 5)), 8)), False)
        self.assertIs(judge_rewriting(net, (6, (2, 4), ((3, 4),), 6)), True)

    def test_constants_below_the_root(self):
        net = ("net", ("a",), (), ((0, 2), (1, 4), (1, 1)), (("y", 6),), ())
        self.assertIs(judge_rewriting(net, (3, (1,), (), 0)), True)
        self.assertIs(judge_rewriting(net, (2, (1,), (), 0)), True)
        self.assertIs(judge_rewriting(net, (4, (1,), (), 1)), True)
        self.assertIs(judge_rewriting(net, (4, (3,), ((1, 1),), 4)), True)

    def test_roots(self):
        for root in (4, 1, 0, -1, 10, 11, 1000000, -1000000):
            self.bad(root, (1, 2), ((2, 4),), 6)

    def test_leaves(self):
        for leaves in ((), (2, 1), (1, 1, 2), (0, 1, 2), (-1, 1, 2), (1, 2, 5), (1, 2, 6), (1, 2, 1000000),
                       (-1000000, 1, 2)):
            self.bad(5, leaves, ((2, 4),), 6)
            self.bad(5, leaves, (), 0)
        self.bad(5, (0, 1, 2), ((4, 6),), 8)
        net = ("net", tuple("abcde"), (), ((2, 4),), (("y", 12),), ())
        for many in (2, 3, 4, 5):
            paper = (6, tuple(range(1, many + 1)), ((2, 4),), 2 * (many + 1))
            self.assertIs(judge_rewriting(net, paper), many <= 4)
        self.bad(8, tuple(range(1, 500)), (), 0)
        self.bad(8, tuple(range(-500, 500)), (), 0)

    def test_inputs_and_registers_that_are_no_leaves(self):
        self.bad(9, (1, 2), ((2, 4),), 6)
        self.good(9, (1, 2, 4), ((2, 4), (6, 8)), 10)
        self.good(9, (4, 5), ((2, 4),), 6)
        self.bad(9, (5,), (), 2)

    def test_wrong_copies(self):
        counted = {True: 0, False: 0}
        for seed in range(100):
            source = random.Random(seed)
            net = random_net(source, source.randrange(1, 4), source.randrange(3), source.randrange(2, 12))
            for _ in range(20):
                paper = right_paper(source, net)
                if paper is None:
                    continue
                self.assertIs(judge_rewriting(net, paper), True)
                other = changed(source, paper)
                for _ in range(source.randrange(2)):
                    at = source.choice((1, 2))
                    other = other[:at] + (relisted(source, other[at]),) + other[at + 1:]
                for tried in (other, random_paper(source, net)):
                    told = judge_rewriting(net, tried)
                    self.assertIs(told, slow_judge(net, tried), (net, tried))
                    counted[told] += 1
        self.assertGreater(min(counted.values()), 100)

    def test_all_small_papers(self):
        net = random_tidy_net(random.Random(5), 2, 1, 8)
        first = 4
        taken = 0
        for root in range(first, first + len(net[3])):
            for many in (1, 2, 3):
                for leaves in itertools.combinations(range(1, root), many):
                    for result in range(2 * (1 + many)):
                        paper = (root, leaves, (), result)
                        told = judge_rewriting(net, paper)
                        self.assertIs(told, slow_judge(net, paper))
                        taken += told
        self.assertEqual(taken, sum(slow_judge(net, (root, leaves, (), result)) for root in range(4, 4 + len(net[3]))
                                    for many in (1, 2, 3) for leaves in itertools.combinations(range(1, root), many)
                                    for result in range(2 * (1 + many))))

    def test_deep(self):
        many = 4000
        ands = ((2, 4),) + tuple((2 * (3 + at) + 1, 2) for at in range(many - 1))
        net = ("net", ("a", "b"), (), ands, (("y", 2 * (2 + many)),), ())
        self.assertIs(judge_rewriting(net, (2 + many, (1, 2), ((2, 5),), 6)), True)
        self.assertIs(judge_rewriting(net, (2 + many, (1, 2), ((2, 4),), 6)), False)
        self.assertEqual(rewritten(net, (2 + many, (1, 2), ((2, 5),), 6))[3], ((2, 5),))


class RewrittenTest(unittest.TestCase):
    def test_the_root_makes_no_and(self):
        net = ("net", ("a", "b"), (), ((2, 4), (3, 6), (7, 8)), (("y", 10), ("z", 8)), ())
        self.assertEqual(rewritten(net, (4, (1, 2), (), 0)), ("net", ("a", "b"), (), (), (("y", 0), ("z", 0)), ()))

    def test_steps_stand_ahead_of_the_root(self):
        paper = (7, (1, 2), ((2, 5), (3, 4), (7, 9)), 11)
        self.assertIs(judge_rewriting(NET, paper), True)
        self.assertEqual(rewritten(NET, paper), (
            "net", ("a", "b", "c"), (("r", 0, 19),), ((2, 4), (2, 5), (3, 4), (13, 15), (6, 17), (8, 10)),
            (("y", 17), ("z", 18)), (("k", 20),),
        ))

    def test_inverted_results(self):
        paper = (5, (1, 2), ((2, 5), (2, 7)), 8)
        self.assertIs(judge_rewriting(NET, paper), True)
        other = rewritten(NET, paper)
        self.assertEqual(other[3][:2], ((2, 5), (2, 11)))
        paper = (6, (1, 2), ((3, 4), (7, 3)), 8)
        self.assertIs(judge_rewriting(NET, paper), True)
        self.assertEqual(rewritten(NET, paper), slow_rewritten(NET, paper))

    def test_equal_ands_are_made_once(self):
        """A step that is like an and behind the root is made ahead of it."""
        net = ("net", ("a", "b"), (), ((2, 4), (3, 6), (3, 5)), (("y", 8), ("z", 10)), ())
        paper = (4, (1, 2), ((3, 5), (6, 2)), 8)
        self.assertIs(judge_rewriting(net, paper), True)
        self.assertEqual(rewritten(net, paper), (
            "net", ("a", "b"), (), ((3, 5), (2, 6)), (("y", 8), ("z", 6)), (),
        ))

    def test_random(self):
        many = 0
        for seed in range(300):
            source = random.Random(seed)
            net = random_net(source, source.randrange(1, 4), source.randrange(4), source.randrange(1, 14))
            for paper in (right_paper(source, net), random_paper(source, net)):
                if paper is None or not judge_rewriting(net, paper):
                    continue
                many += 1
                told = rewritten(net, paper)
                self.assertEqual(told, slow_rewritten(net, paper))
                self.assertEqual(told, rewritten(net, paper))
                self.assertIs(is_net(told) and is_plain(told), True)
                self.assertEqual(tidied(told), told)
                self.assertEqual(names_of(told), names_of(net))
                self.assertEqual(end_tables(told), end_tables(net))
                rows = rows_of_bits(source, net, 6)
                self.assertEqual(shown(told, rows), shown(net, rows))
        self.assertGreater(many, 150)


if __name__ == "__main__":
    unittest.main()
