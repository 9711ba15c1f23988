"""Joint nets, and joint papers."""
import itertools
import random
import unittest

from beatfabric.bonding import bonds_of
from beatfabric.comparing import compared
from beatfabric.errors import TooMany, Unlike
from beatfabric.joint import joint, joint_net, judge_joint
from beatfabric.netruns import NetRun
from beatfabric.nets import is_net
from beatfabric.refuting import refutation
from tests.mutants import changed, relisted
from tests.netmaking import is_plain, random_net, rows_of_bits
from tests.pairmaking import any_pair, line
from tests.refutations import slow_judge, wrong_refutations
from tests.test_bonds import clauses_for, slow_judge_bonds

NET = ("net", ("a", "b"), (("r", 0, 9),), ((2, 6), (8, 5)), (("y", 10),), (("c", 7),))
OTHER = ("net", ("a", "b"), (("p", 1, 2), ("q", 0, 11)), ((6, 8), (4, 10), (3, 12)), (("z", 12),), (("k", 15),))


def slow_judge_joint(net, other, paper):
    """The words of the document, one by one."""
    joined = joint_net(net, other)
    bonds, ends = paper
    if not slow_judge_bonds(joined, bonds):
        return False
    rows = [(net[4][at][1], at, 4) for at in range(len(net[4]))] + [(net[5][at][1], at, 5) for at in range(len(net[5]))]
    if len(ends) != len(rows):
        return False
    clauses = clauses_for(joined, [bond[:2] for bond in bonds])
    for (_, at, part), (first, second) in zip(rows, ends):
        x, y = joined[part][at][1], joined[part][len(net[part]) + at][1]
        if not slow_judge(joined, clauses, (x, y ^ 1), first) or not slow_judge(joined, clauses, (x ^ 1, y), second):
            return False
    return True


def small_pair(source):
    """A pair whose joint net has at most 10 inputs and registers."""
    while True:
        net, other = any_pair(source, 2, 3)
        if len(net[1]) + len(net[2]) + len(other[2]) <= 10:
            return net, other


class JointNetTest(unittest.TestCase):
    def test_by_hand(self):
        self.assertEqual(joint_net(NET, OTHER), (
            "net", ("a", "b"), (("r", 0, 13), ("p'", 1, 2), ("q'", 0, 17)),
            ((2, 6), (12, 5), (8, 10), (4, 16), (3, 18)), (("y", 14), ("z'", 18)), (("c", 7), ("k'", 21)),
        ))

    def test_it_is_not_tidied(self):
        net = ("net", ("a",), (("r", 0, 0),), ((2, 2), (0, 1), (6, 6)), (("y", 10),), ())
        self.assertEqual(joint_net(net, net), (
            "net", ("a",), (("r", 0, 0), ("r'", 0, 0)), ((2, 2), (0, 1), (8, 8), (2, 2), (0, 1), (14, 14)),
            (("y", 12), ("y'", 18)), (),
        ))

    def test_nothing(self):
        net = ("net", (), (), (), (), ())
        self.assertEqual(joint_net(net, net), net)
        self.assertEqual(joint(net, net), ((), ()))
        self.assertIs(judge_joint(net, net, ((), ())), True)

    def test_random(self):
        """It shows what both nets show, those of the first ones ahead."""
        for seed in range(200):
            source = random.Random(seed)
            net, other = any_pair(source)
            joined = joint_net(net, other)
            self.assertEqual(joint_net(net, other), joined)
            self.assertIs(is_plain(joined) and is_net(joined), True)
            self.assertEqual(len(joined[3]), len(net[3]) + len(other[3]))
            for at in (2, 4, 5):
                self.assertEqual([row[0] for row in joined[at]],
                                 [row[0] for row in net[at]] + [row[0] + "'" for row in other[at]])
            runs = [NetRun(part) for part in (net, other, joined)]
            for row in rows_of_bits(source, net, 8):
                one, mate, told = [run.beat(row) for run in runs]
                many = len(net[4])
                self.assertEqual(told, one[:many] + mate[:many] + one[many:] + mate[many:])
                self.assertEqual(runs[2].state, runs[0].state + runs[1].state)

    def test_unlike(self):
        net = ("net", ("a", "b"), (), (), (("y", 2),), (("c", 4),))
        for other in (("net", ("b", "a"), (), (), (("y", 2),), (("c", 4),)),
                      ("net", ("a",), (), (), (("y", 2),), (("c", 2),)),
                      ("net", ("a", "b"), (), (), (), (("c", 4),)), ("net", ("a", "b"), (), (), (("y", 2),), ()),
                      ("net", ("a", "b"), (), (), (("y", 2), ("c", 4)), ()),
                      ("net", ("a", "b"), tuple((f"r{at}", 0, 0) for at in range(11)), (), (("y", 2),), ())):
            for one, mate in ((net, other), (other, net)):
                for function in (joint_net, joint, lambda net, other: judge_joint(net, other, ((), ()))):
                    with self.assertRaises(Unlike):
                        function(one, mate)


class JointTest(unittest.TestCase):
    def test_support(self):
        """10 inputs and registers, and 11; 7 inputs are not too many here."""
        for wide, one, mate in ((0, 5, 5), (1, 4, 5), (4, 3, 3), (8, 1, 1), (7, 1, 2), (0, 9, 1)):
            net, other = line(one, (1,), wide), line(mate, (1,), wide)
            self.assertIs(judge_joint(net, other, joint(net, other)), True)
            for net, other in ((line(one + 1, (1,), wide), other), (net, line(mate + 1, (1,), wide)),
                               (line(one, (1,), wide + 1), line(mate, (1,), wide + 1))):
                with self.assertRaises(TooMany) as caught:
                    joint(net, other)
                self.assertEqual(caught.exception.part, "support")

    def test_many_states(self):
        """Nets with more than 300 pairs of states."""
        regs = tuple((f"r{at}", 0, 2 if at == 0 else 2 * (1 + at)) for at in range(4))
        net = ("net", ("a",), regs, (), (("y", 10),), (("c", 1),))
        self.assertIs(judge_joint(net, net, joint(net, net)), True)
        net = line(400, (2,))
        with self.assertRaises(TooMany):
            compared(net, net)
        # The registers with one number are bonded; a step of one literal is needed nowhere.
        ahead = 1 + 400
        bonds = tuple((400 + at, 2 * (1 + at), ((),), ((),)) for at in range(400))
        self.assertIs(judge_joint(net, net, (bonds, ((((),), ((),)),))), True)
        self.assertIs(judge_joint(net, net, (bonds[:-1], ((((),), ((),)),))), False)
        self.assertEqual(joint_net(net, net)[2][400], ("r0'", 1, 2 * (ahead + 399)))

    def test_none(self):
        """Bonds that leave two bits that differ: the nets part, or they are not alike by bonds alone."""
        net = ("net", ("a",), (), (), (("y", 2),), ())
        self.assertIsNone(joint(net, net[:4] + ((("y", 3),), ())))
        self.assertIsNone(joint(net, net[:4] + ((("y", 0),), ())))
        # r and s are never 1 together, which no tie tells; so the nets never part and yet there is no paper.
        net = ("net", (), (("r", 1, 4), ("s", 0, 2)), ((2, 4),), (("y", 6),), ())
        other = ("net", (), (), (), (("y", 0),), ())
        self.assertEqual(compared(net, other)[0], "alike")
        self.assertEqual(joint(net, other), joint(net, other))
        self.assertIs(joint(net, other) is None, not slow_closed(net, other))

    def test_random(self):
        counted = {"paper": 0, "none": 0}
        for seed in range(400):
            source = random.Random(seed)
            net, other = small_pair(source)
            paper = joint(net, other)
            self.assertEqual(joint(net, other), paper)
            self.assertIs(is_plain(paper), True)
            counted["none" if paper is None else "paper"] += 1
            self.assertIs(paper is None, not slow_closed(net, other))
            if paper is not None:
                self.assertEqual(paper[0], bonds_of(joint_net(net, other)))
                self.assertIs(judge_joint(net, other, paper), True)
                self.assertEqual(compared(net, other)[0], "alike")
            else:
                self.assertIs(judge_joint(net, other, (bonds_of(joint_net(net, other)), ())),
                              not net[4] and not net[5])
        self.assertGreater(min(counted.values()), 60)


def slow_closed(net, other):
    """Whether all outputs and claims agree for all bits in which the bonds of the finder agree."""
    joined = joint_net(net, other)
    pairs = []
    for bond in bonds_of(joined):
        pairs.append((2 * (1 + len(joined[1]) + bond[0]), bond[1]))
    ends = []
    for at in (4, 5):
        many = len(net[at])
        ends += [(one[1], mate[1]) for one, mate in zip(joined[at][:many], joined[at][many:])]
    for bits in itertools.product((0, 1), repeat=len(joined[1]) + len(joined[2])):
        rows = [0] + list(bits)
        for left, right in joined[3]:
            rows.append((rows[left // 2] ^ left & 1) & (rows[right // 2] ^ right & 1))
        if all(rows[x // 2] ^ x & 1 == rows[y // 2] ^ y & 1 for x, y in pairs):
            if any(rows[x // 2] ^ x & 1 != rows[y // 2] ^ y & 1 for x, y in ends):
                return False
    return True


class JudgeTest(unittest.TestCase):
    def setUp(self):
        """A counter of two bits, and one whose registers contain other bits."""
        self.net = ("net", ("a",), (("p", 0, 13), ("q", 0, 19)), (
            (2, 4), (3, 5), (9, 11), (8, 6), (9, 7), (15, 17),
        ), (("y", 4), ("z", 6)), (("c", 1),))
        self.other = ("net", ("a",), (("t", 1, 18), ("s", 1, 12)), (
            (2, 7), (3, 6), (9, 11), (8, 5), (9, 4), (15, 17),
        ), (("u", 7), ("v", 5)), (("d", 1),))
        self.paper = joint(self.net, self.other)

    def judged(self, paper):
        told = judge_joint(self.net, self.other, paper)
        self.assertIs(told, slow_judge_joint(self.net, self.other, paper))
        return told

    def test_by_hand(self):
        self.assertEqual(compared(self.net, self.other)[0], "alike")
        self.assertIsNotNone(self.paper)
        self.assertEqual([bond[:2] for bond in self.paper[0]], [(2, 7), (3, 5)])
        self.assertIs(self.judged(self.paper), True)
        bonds, ends = self.paper
        self.assertIs(self.judged((bonds, ends[:2])), False)
        self.assertIs(self.judged((bonds, ends + ends[:1])), False)
        self.assertIs(self.judged((bonds, ())), False)
        self.assertIs(self.judged(((), ends)), False)
        self.assertIs(self.judged((bonds[:1], ends)), False)
        self.assertIs(self.judged((bonds[::-1], ends)), False)
        self.assertIs(self.judged((bonds + bonds[1:], ends)), False)

    def test_wrong_ends(self):
        bonds, ends = self.paper
        for at in range(3):
            for side in (0, 1):
                for wrong in wrong_refutations(ends[at][side], 2 * (1 + 5 + 12)):
                    pair = (wrong, ends[at][1]) if side == 0 else (ends[at][0], wrong)
                    self.assertIs(self.judged((bonds, ends[:at] + (pair,) + ends[at + 1:])), False)

    def test_which_side_is_refuted(self):
        """Behind an end that goes one way only one of both refutations is right."""
        net = ("net", ("a", "b"), (), ((2, 4),), (("y", 6),), ())
        other = ("net", ("a", "b"), (), (), (("y", 2),), ())
        joined = joint_net(net, other)
        right = refutation(joined, (), (6, 3))
        self.assertEqual(right[0], "refuted")
        self.assertEqual(refutation(joined, (), (7, 2))[0], "met")
        for ends in (((right[1], right[1]),), ((right[1], ((),)),), ((((),), right[1]),)):
            self.assertIs(judge_joint(net, other, ((), ends)), False)
            self.assertIs(slow_judge_joint(net, other, ((), ends)), False)
        more = net[:4] + ((("y", 2),), ())
        self.assertIs(judge_joint(more, other, ((), ((((),), ((),)),))), True)

    def test_bonds_of_one_net(self):
        """Bonds within the first net, and those to 0, count, too."""
        net = ("net", ("a",), (("p", 0, 2), ("q", 1, 3), ("r", 0, 0)), ((4, 6), (8, 4)), (("y", 10), ("z", 12)), ())
        other = ("net", ("a",), (), (), (("y", 0), ("z", 0)), ())
        paper = joint(net, other)
        self.assertEqual([bond[:2] for bond in paper[0]], [(1, 5), (2, 0)])
        self.assertIs(judge_joint(net, other, paper), True)

    def test_wrong_copies(self):
        counted = {True: 0, False: 0}
        for seed in range(500):
            source = random.Random(seed)
            net, other = small_pair(source)
            paper = joint(net, other)
            if paper is None:
                continue
            bonds, ends = paper
            others = [changed(source, paper), (relisted(source, bonds), ends), (bonds, relisted(source, ends))]
            if ends:
                at = source.randrange(len(ends))
                for pair in ((relisted(source, ends[at][0]), ends[at][1]), ends[at][::-1]):
                    others.append((bonds, ends[:at] + (pair,) + ends[at + 1:]))
            for wrong in others:
                told = judge_joint(net, other, wrong)
                self.assertIs(told, slow_judge_joint(net, other, wrong), (net, other, wrong))
                counted[told] += 1
                if told:
                    self.assertEqual(compared(net, other)[0], "alike")
        self.assertGreater(min(counted.values()), 100)

    def test_no_paper_for_nets_that_part(self):
        """Papers of other pairs of nets, and their steps, are not taken."""
        for seed in range(200):
            source = random.Random(seed)
            net, other = small_pair(source)
            if compared(net, other)[0] == "part":
                ends = (((((),), ((),)),) * (len(net[4]) + len(net[5])))
                self.assertIs(judge_joint(net, other, (bonds_of(joint_net(net, other)), ends)), False)
                self.assertIsNone(joint(net, other))

    def test_random_nets_of_any_names(self):
        net = random_net(random.Random(1))
        self.assertIs(judge_joint(net, net, joint(net, net)), True)


if __name__ == "__main__":
    unittest.main()
