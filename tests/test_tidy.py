"""Tidy and bared nets."""
import random
import unittest

from beatfabric.netruns import NetRun
from beatfabric.nets import is_net
from beatfabric.tidy import bared, tidied
from tests.netmaking import random_net, rows_of_bits

EMPTY = ("net", (), (), (), (), ())


def slow_tidied(net):
    """The words of the document, one by one."""
    _, inputs, regs, ands, outputs, claims = net
    first = 1 + len(inputs) + len(regs)
    new = {node: 2 * node for node in range(first)}
    made = []
    for at, pair in enumerate(ands):
        low, high = sorted(new[x // 2] ^ x % 2 for x in pair)
        if low == 0:
            new[first + at] = 0
        elif low == 1:
            new[first + at] = high
        elif low == high:
            new[first + at] = low
        elif low // 2 == high // 2:
            new[first + at] = 0
        else:
            if (low, high) not in made:
                made.append((low, high))
            new[first + at] = 2 * (first + made.index((low, high)))

    def moved(x):
        return new[x // 2] ^ x % 2

    regs = [(name, start, moved(x)) for name, start, x in regs]
    ends = [[(name, moved(x)) for name, x in rows] for rows in (outputs, claims)]
    reached = set()
    todo = [x // 2 for _, x in ends[0] + ends[1]] + [x // 2 for _, _, x in regs]
    while todo:
        node = todo.pop()
        if node >= first and node not in reached:
            reached.add(node)
            todo.extend(x // 2 for x in made[node - first])
    kept = sorted(reached)
    place = {node: node for node in range(first)}
    place.update({node: first + at for at, node in enumerate(kept)})

    def closed(x):
        return 2 * place[x // 2] + x % 2

    return (
        "net", inputs, tuple((name, start, closed(x)) for name, start, x in regs),
        tuple(tuple(closed(x) for x in made[node - first]) for node in kept),
        tuple((name, closed(x)) for name, x in ends[0]), tuple((name, closed(x)) for name, x in ends[1]),
    )


def needed_registers(net):
    """The words of the document, round after round."""
    _, inputs, regs, ands, outputs, claims = net
    first = 1 + len(inputs) + len(regs)

    def support(x):
        node = x // 2
        if node < first:
            return {node}
        return support(ands[node - first][0]) | support(ands[node - first][1])

    def registers(literals):
        nodes = set().union(*[support(x) for x in literals])
        return {node - 1 - len(inputs) for node in nodes if node > len(inputs)}

    needed = registers([x for _, x in outputs + claims])
    while True:
        more = needed | registers([regs[at][2] for at in needed])
        if more == needed:
            return needed
        needed = more


class TidyTest(unittest.TestCase):
    def one(self, left, right):
        """What the output of one and becomes, with inputs 2 and 4."""
        net = tidied(("net", ("a", "b"), (), ((left, right),), (("y", 6),), ()))
        return net[3], net[4][0][1]

    def test_empty(self):
        self.assertEqual(tidied(EMPTY), EMPTY)
        self.assertEqual(bared(EMPTY), EMPTY)

    def test_the_example(self):
        self.assertEqual(tidied(("net", ("a", "b"), (), ((2, 4), (4, 2), (6, 9)), (("y", 10),), ())),
                         ("net", ("a", "b"), (), (), (("y", 0),), ()))

    def test_simple_ands(self):
        for other in range(6):
            for pair in ((0, other), (other, 0)):
                self.assertEqual(self.one(*pair), ((), 0))
            for pair in ((1, other), (other, 1)):
                self.assertEqual(self.one(*pair), ((), other))
            self.assertEqual(self.one(other, other), ((), other))
            self.assertEqual(self.one(other, other ^ 1), ((), 0))

    def test_order_of_literals(self):
        self.assertEqual(self.one(5, 2), (((2, 5),), 6))
        self.assertEqual(self.one(3, 4), (((3, 4),), 6))

    def test_equal_ands(self):
        net = ("net", ("a", "b"), (), ((4, 2), (2, 4), (7, 3), (3, 9)), (("y", 10), ("z", 13)), ())
        self.assertEqual(tidied(net), ("net", ("a", "b"), (), ((2, 4), (3, 7)), (("y", 8), ("z", 9)), ()))

    def test_ands_that_are_not_reached(self):
        net = ("net", ("a", "b"), (("r", 1, 10),), ((2, 4), (3, 4), (8, 5), (2, 5)), (("y", 15),), ())
        self.assertEqual(tidied(net), ("net", ("a", "b"), (("r", 1, 8),), ((3, 4), (2, 5)), (("y", 11),), ()))

    def test_reached_from_claims(self):
        net = ("net", ("a", "b"), (), ((2, 4), (3, 4)), (), (("c", 8),))
        self.assertEqual(tidied(net), ("net", ("a", "b"), (), ((3, 4),), (), (("c", 6),)))

    def test_inputs_and_registers_stay(self):
        net = ("net", ("a",), (("r", 0, 3), ("s", 1, 0)), ((2, 4),), (), ())
        self.assertEqual(tidied(net), ("net", ("a",), (("r", 0, 3), ("s", 1, 0)), (), (), ()))

    def test_random(self):
        for seed in range(300):
            source = random.Random(seed)
            net = random_net(source, source.randrange(1, 4), source.randrange(4), source.randrange(20))
            told = tidied(net)
            self.assertEqual(told, slow_tidied(net))
            self.assertIs(is_net(told), True)
            self.assertEqual(tidied(told), told)
            rows = rows_of_bits(source, net, 8)
            self.assertEqual(list(NetRun(told).beats(rows)), list(NetRun(net).beats(rows)))

    def test_deep(self):
        many = 5000
        ands = ((2, 4),) + tuple((2 * (3 + at) + 1, 2) for at in range(many - 1))
        net = ("net", ("a", "b"), (), ands, (("y", 2 * (2 + many)),), ())
        self.assertEqual(tidied(net)[3][-1], (2, 2 * (1 + many) + 1))
        self.assertEqual(tidied(net), tuple([*net[:3], ((2, 4),) + tuple((2, left) for left, _ in ands[1:]), *net[4:]]))


class BareTest(unittest.TestCase):
    def test_all_needed(self):
        net = ("net", ("a",), (("r", 0, 6), ("s", 1, 2)), (), (("y", 4),), ())
        self.assertEqual(bared(net), net)

    def test_needed_by_claims_and_nexts(self):
        net = ("net", ("a",), (("p", 0, 8), ("q", 0, 2), ("r", 1, 4), ("s", 0, 11)), (), (), (("c", 6),))
        self.assertEqual(bared(net), ("net", ("a",), (("q", 0, 2),), (), (), (("c", 4),)))
        net = ("net", ("a",), (("p", 0, 10), ("q", 0, 2), ("r", 1, 4), ("s", 0, 7)), (), (), (("c", 5),))
        self.assertEqual(bared(net), ("net", ("a",), (("p", 0, 8), ("q", 0, 2), ("s", 0, 7)), (), (), (("c", 5),)))

    def test_registers_that_need_each_other_only(self):
        net = ("net", ("a",), (("p", 0, 6), ("q", 1, 4), ("r", 0, 2)), ((4, 6), (8, 2)), (("y", 8),), ())
        self.assertEqual(bared(net), ("net", ("a",), (("r", 0, 2),), (), (("y", 4),), ()))

    def test_needed_in_the_net_as_it_is_passed(self):
        # The and is always 0, but the registers in it are needed all the same.
        net = ("net", ("a",), (("p", 0, 2), ("q", 1, 2)), ((4, 5),), (("y", 8),), ())
        self.assertEqual(bared(net), ("net", ("a",), (("p", 0, 2),), (), (("y", 0),), ()))

    def test_random(self):
        for seed in range(200):
            source = random.Random(seed)
            net = random_net(source, 2, source.randrange(6), source.randrange(10), 2)
            told = bared(net)
            needed = needed_registers(net)
            self.assertEqual([reg[0] for reg in told[2]], [net[2][at][0] for at in sorted(needed)])
            self.assertEqual([reg[1] for reg in told[2]], [net[2][at][1] for at in sorted(needed)])
            self.assertIs(is_net(told), True)
            self.assertEqual(tidied(told), told)
            self.assertEqual((told[1], [row[0] for row in told[4]]), (net[1], [row[0] for row in net[4]]))
            rows = rows_of_bits(source, net, 8)
            self.assertEqual(list(NetRun(told).beats(rows)), list(NetRun(net).beats(rows)))


if __name__ == "__main__":
    unittest.main()
