"""The judge of nets, heights and supports."""
import random
import unittest

from beatfabric.nets import heights, is_net, support
from tests.mutants import changed, relisted
from tests.netmaking import random_net

NET = (
    "net", ("a", "b"), (("r", 0, 9), ("s", 1, 4)), ((2, 4), (6, 11), (8, 12)), (("y", 14), ("z", 15)), (("c", 1),),
)
EMPTY = ("net", (), (), (), (), ())


def slow_is_net(net):
    """The words of the document, one by one."""
    word, inputs, regs, ands, outputs, claims = net
    first = 1 + len(inputs) + len(regs)
    nodes = range(first + len(ands))
    literals = [literal for node in nodes for literal in (2 * node, 2 * node + 1)]
    for at, pair in enumerate(ands):
        if any(literal not in literals or literal // 2 >= first + at for literal in pair):
            return False
    if any(literal not in literals for _, literal in outputs + claims):
        return False
    if any(start not in (0, 1) or follow not in literals for _, start, follow in regs):
        return False
    names = [list(inputs) + [reg[0] for reg in regs], [row[0] for row in outputs], [row[0] for row in claims]]
    return word == "net" and all(len(row) == len(set(row)) for row in names)


def with_part(at, part):
    return NET[:at] + (part,) + NET[at + 1:]


class JudgeTest(unittest.TestCase):
    def good(self, net):
        self.assertIs(is_net(net), True)

    def bad(self, net):
        self.assertIs(is_net(net), False)

    def test_right(self):
        self.good(NET)
        self.good(EMPTY)
        self.good(("net", (), (), (), (("y", 0),), (("y", 1),)))
        self.good(("net", (), (("r", 1, 3),), (), (), ()))

    def test_first_word(self):
        for word in ("graph", "", "Net"):
            self.bad((word,) + NET[1:])

    def test_literals_of_ands(self):
        for pair in ((16, 0), (0, 16), (17, 0), (-1, 0), (0, -1), (-2, -3), (1000000, 0), (0, -1000000)):
            self.bad(with_part(3, NET[3] + (pair,)))
        self.good(with_part(3, NET[3] + ((0, 15), (17, 17), (3, 3))))
        self.bad(with_part(3, ((12, 2),) + NET[3]))

    def test_literals_of_ends(self):
        for literal in (16, 17, -1, -2, 1000000, -1000000):
            self.bad(with_part(4, (("y", literal),)))
            self.bad(with_part(5, (("y", literal),)))
            self.bad(with_part(2, (("r", 0, literal), ("s", 1, 4))))
        for literal in (0, 1, 15):
            self.good(with_part(4, (("y", literal),)))
            self.good(with_part(5, (("y", literal),)))
            self.good(with_part(2, (("r", 0, literal), ("s", 1, 4))))

    def test_starts(self):
        for start in (2, -1, 1000000):
            self.bad(with_part(2, (("r", start, 9), ("s", 1, 4))))

    def test_names(self):
        self.bad(with_part(1, ("a", "a")))
        self.bad(with_part(1, ("a", "r")))
        self.bad(with_part(2, (("r", 0, 9), ("r", 1, 4))))
        self.bad(with_part(4, (("y", 0), ("y", 0))))
        self.bad(with_part(5, (("c", 0), ("c", 1))))
        self.good(with_part(4, (("a", 0), ("r", 0), ("c", 0), ("", 0))))

    def test_wrong_copies(self):
        counted = {True: 0, False: 0}
        for seed in range(60):
            source = random.Random(seed)
            net = random_net(source, source.randrange(4), source.randrange(4), source.randrange(8))
            self.good(net)
            for _ in range(30):
                other = net
                for _ in range(source.randrange(1, 3)):
                    if source.randrange(3) == 0:
                        at = source.randrange(1, 6)
                        other = other[:at] + (relisted(source, other[at]),) + other[at + 1:]
                    else:
                        other = changed(source, other)
                told = is_net(other)
                self.assertIs(told, slow_is_net(other), other)
                counted[told] += 1
        self.assertGreater(min(counted.values()), 100)


class NodesTest(unittest.TestCase):
    def test_heights(self):
        self.assertEqual(heights(NET), (0, 0, 0, 0, 0, 1, 2, 3))
        self.assertEqual(heights(EMPTY), (0,))
        self.assertEqual(heights(("net", ("a",), (), ((0, 0), (5, 2), (2, 2)), (), ())), (0, 0, 1, 2, 1))

    def test_support(self):
        self.assertEqual(support(NET, (7,)), (1, 2, 3, 4))
        self.assertEqual(support(NET, (6,)), (1, 2, 3))
        self.assertEqual(support(NET, (5, 5)), (1, 2))
        self.assertEqual(support(NET, (4, 1)), (1, 4))
        self.assertEqual(support(NET, (0,)), ())
        self.assertEqual(support(NET, ()), ())
        self.assertEqual(support(("net", ("a",), (), ((0, 1),), (), ()), (2,)), ())

    def test_support_does_not_go_on_to_nexts(self):
        self.assertEqual(support(NET, (3,)), (3,))

    def test_deep(self):
        many = 5000
        ands = ((2, 4),) + tuple((2 * (3 + at) + 1, 2) for at in range(many - 1))
        net = ("net", ("a", "b"), (), ands, (("y", 2 * (2 + many)),), ())
        self.assertIs(is_net(net), True)
        self.assertEqual(heights(net)[-1], many)
        self.assertEqual(support(net, (2 + many,)), (1, 2))


if __name__ == "__main__":
    unittest.main()
