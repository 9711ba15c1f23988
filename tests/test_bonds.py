"""Bond papers: the judge, and the bonded net."""
import random
import unittest

from beatfabric.bonding import bonds_of
from beatfabric.bonds import bonded, judge_bonds
from beatfabric.nets import is_net
from beatfabric.refuting import refutation
from beatfabric.tidy import tidied
from tests.mutants import changed, relisted
from tests.netmaking import is_plain, random_net, rows_of_bits, shown
from tests.refutations import slow_judge, wrong_refutations

# a is node 1; p is node 2, always 0; q is 3, r is 4, always as q; s is 5, always opposite to q; t is 6, as ~s.
NET = (
    "net", ("a",), (("p", 0, 14), ("q", 1, 2), ("r", 1, 2), ("s", 0, 3), ("t", 1, 2)), ((4, 6), (8, 11)),
    (("y", 16), ("z", 13)), (("c", 15),),
)


def sides(net, bond):
    """The next of the register, and that of the literal."""
    ahead = 1 + len(net[1])
    reg, literal = bond[:2]
    own = net[2][reg][2]
    return own, literal if literal < 2 else net[2][literal // 2 - ahead][2] ^ literal & 1


def clauses_for(net, pairs):
    ahead = 1 + len(net[1])
    return tuple(c for reg, x in pairs for c in ((2 * (ahead + reg) + 1, x), (2 * (ahead + reg), x ^ 1)))


def paper_of(net, pairs):
    """The bonds of these pairs, with refutations; None if they do not hold."""
    paper = []
    for pair in pairs:
        own, other = sides(net, pair)
        first = refutation(net, clauses_for(net, pairs), (own, other ^ 1))
        second = refutation(net, clauses_for(net, pairs), (own ^ 1, other))
        if first[0] != "refuted" or second[0] != "refuted":
            return None
        paper.append(tuple(pair) + (first[1], second[1]))
    return tuple(paper)


def slow_judge_bonds(net, paper):
    """The words of the document, one by one."""
    _, inputs, regs, _, _, _ = net
    ahead = 1 + len(inputs)
    numbers = [bond[0] for bond in paper]
    if numbers != sorted(set(numbers)) or any(reg not in range(len(regs)) for reg in numbers):
        return False
    for reg, x, _, _ in paper:
        if x not in [0, 1] + [2 * (ahead + at) + k for at in range(reg) for k in (0, 1)]:
            return False
        if regs[reg][1] != (x if x < 2 else regs[x // 2 - ahead][1] ^ x & 1):
            return False
    given = clauses_for(net, [bond[:2] for bond in paper])
    for bond in paper:
        own, other = sides(net, bond)
        if not slow_judge(net, given, (own, other ^ 1), bond[2]):
            return False
        if not slow_judge(net, given, (own ^ 1, other), bond[3]):
            return False
    return True


class JudgeTest(unittest.TestCase):
    def good(self, paper, net=NET):
        self.assertIs(judge_bonds(net, paper), True)

    def bad(self, paper, net=NET):
        self.assertIs(judge_bonds(net, paper), False)

    def test_right(self):
        self.good(())
        self.good((), ("net", (), (), (), (), ()))
        self.good(paper_of(NET, ((0, 0),)))
        self.good(paper_of(NET, ((2, 6),)))
        self.good(paper_of(NET, ((3, 7),)))
        self.good(paper_of(NET, ((2, 6), (3, 7), (4, 6))))
        self.good(paper_of(NET, ((0, 0), (2, 6), (3, 9), (4, 11))))

    def test_bonds_by_each_other(self):
        """Two registers that are alike only because the others are."""
        net = ("net", ("a",), (("p", 0, 6), ("q", 0, 4), ("r", 0, 10), ("s", 0, 8)), (), (), ())
        pairs = ((2, 6), (3, 4))
        paper = paper_of(net, pairs)
        self.assertIsNotNone(paper)
        self.good(paper, net)
        self.assertIsNone(paper_of(net, ((2, 6),)))
        for bond in paper:
            self.bad((bond,), net)
            self.bad((bond[:2] + (((),), ((),)),), net)

    def test_order(self):
        paper = paper_of(NET, ((2, 6), (3, 7), (4, 6)))
        self.bad((paper[1], paper[0], paper[2]))
        self.bad((paper[0], paper[0], paper[1]))
        self.bad(paper + paper[:1])

    def test_registers(self):
        for reg in (5, 6, -1, -2, -5, 1000000, -1000000):
            self.bad(((reg, 0, ((),), ((),)),))
            self.bad(((reg, 1, ((),), ((),)),))

    def test_literals(self):
        """Of inputs, of the register itself, of registers behind it, of ands, of nothing."""
        steps = (((),), ((),))
        for literal in (2, 3, 8, 9, 10, 11, 12, 13, 14, 15, 17, 18, 1000000, -1, -2, -6, -1000000):
            self.bad(((2, literal) + steps,))
        net = ("net", ("a",), (("p", 0, 2), ("q", 0, 2)), ((2, 2),), (), ())
        for literal in (2, 6, 8, 9, 5):
            self.bad(((1, literal) + steps,), net)
        self.good(((1, 4) + steps,), net)
        net = ("net", ("a",), (("p", 1, 1),), (), (), ())
        self.good(((0, 1) + steps,), net)
        self.bad(((0, 0) + steps,), net)
        self.bad(((0, 4) + steps,), net)
        self.bad(((0, 5) + steps,), net)

    def test_starts(self):
        steps = (((),), ((),))
        for start in (0, 1):
            for other in (0, 1):
                net = ("net", ("a",), (("p", start, 2), ("q", other, 2), ("r", other, 3)), (), (), ())
                self.assertIs(judge_bonds(net, ((1, 4) + steps,)), start == other)
                self.assertIs(judge_bonds(net, ((2, 5) + steps,)), start != other)
                net = ("net", ("a",), (("p", start, other),), (), (), ())
                for bit in (0, 1):
                    self.assertIs(judge_bonds(net, ((0, bit) + steps,)), start == other == bit)

    def test_nexts(self):
        steps = (((),), ((),))
        for own, other, told in ((2, 2, True), (2, 3, False), (2, 0, False), (4, 6, True), (5, 6, False), (7, 5, True)):
            net = ("net", ("a",), (("p", 0, own), ("q", 0, other)), (), (), ())
            self.assertIs(judge_bonds(net, ((1, 4) + steps,)), told, (own, other))
        net = ("net", ("a",), (("p", 0, 5), ("q", 1, 7)), (), (), ())
        self.good(((1, 5) + steps,), net)

    def test_refutations(self):
        ands = ((2, 4), (2, 5), (3, 4), (3, 5), (9, 11), (13, 15), (16, 18))
        net = ("net", ("a", "b"), (("p", 0, 20),), ands, (), ())
        paper = paper_of(net, ((0, 0),))
        self.good(paper, net)
        self.assertGreater(len(paper[0][2]), 1)
        self.bad((paper[0][:2] + (paper[0][3], paper[0][2]),), net)
        for at in (2, 3):
            for wrong in wrong_refutations(paper[0][at], 22):
                self.bad((paper[0][:at] + (wrong,) + paper[0][at + 1:],), net)

    def test_wrong_copies(self):
        counted = {True: 0, False: 0}
        for seed in range(300):
            source = random.Random(seed)
            net = random_net(source, source.randrange(3), source.randrange(1, 6), source.randrange(8), 3)
            paper = bonds_of(net)
            self.assertIs(judge_bonds(net, paper), True)
            for _ in range(4):
                other = changed(source, paper)
                if source.randrange(2) == 0:
                    other = relisted(source, other)
                told = judge_bonds(net, other)
                self.assertIs(told, slow_judge_bonds(net, other), (net, other))
                counted[told] += 1
        self.assertGreater(min(counted.values()), 100)


class BondedTest(unittest.TestCase):
    def test_bonds_to_0(self):
        self.assertEqual(bonded(NET, paper_of(NET, ((0, 0),))), (
            "net", ("a",), (("q", 1, 2), ("r", 1, 2), ("s", 0, 3), ("t", 1, 2)), ((6, 9),),
            (("y", 12), ("z", 11)), (("c", 1),),
        ))

    def test_chains(self):
        """Bonds of bonds, also inverted ones."""
        told = bonded(NET, paper_of(NET, ((0, 0), (2, 6), (3, 9), (4, 11))))
        self.assertEqual(told, ("net", ("a",), (("q", 1, 2),), (), (("y", 4), ("z", 5)), (("c", 1),)))

    def test_nexts_become_literals(self):
        net = ("net", ("a",), (("p", 0, 2), ("q", 1, 3), ("r", 0, 6), ("s", 1, 7)), (), (("y", 8),), (("c", 11),))
        paper = paper_of(net, ((1, 5),))
        self.assertEqual(bonded(net, paper), (
            "net", ("a",), (("p", 0, 2), ("r", 0, 5), ("s", 1, 4)), (), (("y", 6),), (("c", 9),),
        ))

    def test_all_registers(self):
        net = ("net", (), (("p", 1, 4), ("q", 1, 2), ("r", 0, 3)), ((2, 6), (4, 7)), (("y", 8), ("z", 10)), ())
        paper = paper_of(net, ((0, 1), (1, 1), (2, 0)))
        self.assertIs(judge_bonds(net, paper), True)
        self.assertEqual(bonded(net, paper), ("net", (), (), (), (("y", 0), ("z", 1)), ()))

    def test_the_empty_paper(self):
        for seed in range(20):
            net = random_net(random.Random(seed))
            self.assertEqual(bonded(net, ()), tidied(net))

    def test_random(self):
        many = 0
        for seed in range(300):
            source = random.Random(seed)
            net = random_net(source, source.randrange(3), source.randrange(1, 7), source.randrange(12), 4)
            full = bonds_of(net)
            part = paper_of(net, [bond[:2] for bond in full if source.randrange(2)])
            for paper in (full, part):
                if paper is None:
                    continue
                self.assertIs(judge_bonds(net, paper), True)
                many += len(paper)
                other = bonded(net, paper)
                self.assertEqual(bonded(net, paper), other)
                self.assertIs(is_net(other) and is_plain(other), True)
                self.assertEqual(tidied(other), other)
                dropped = [bond[0] for bond in paper]
                kept = [reg[:2] for at, reg in enumerate(net[2]) if at not in dropped]
                self.assertEqual([reg[:2] for reg in other[2]], kept)
                self.assertEqual(other[1], net[1])
                for at in (4, 5):
                    self.assertEqual([name for name, _ in other[at]], [name for name, _ in net[at]])
                rows = rows_of_bits(source, net, 20)
                self.assertEqual(shown(other, rows), shown(net, rows))
        self.assertGreater(many, 300)


if __name__ == "__main__":
    unittest.main()
