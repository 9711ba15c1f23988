"""Traces, and held registers."""
import random
import unittest

from beatfabric.errors import FabricError, Held
from beatfabric.traces import held_of, traced
from tests.netmaking import is_plain, random_net

NET = ("net", ("a",), (("r", 1, 2), ("s", 0, 5), ("t", 1, 7), ("u", 0, 1)), ((4, 6),), (("y", 6),), ())


def slow_held(net):
    """From a held register more steps lead on through registers than there are registers."""
    ahead = 1 + len(net[1])
    held = []
    for at, reg in enumerate(net[2]):
        node = ahead + at
        for _ in range(len(net[2]) + 1):
            if ahead <= node < ahead + len(net[2]):
                node = net[2][node - ahead][2] // 2
        if ahead <= node < ahead + len(net[2]):
            held.append(reg[0])
    return tuple(held)


def slow_trace(net, x):
    ahead = 1 + len(net[1])
    row = ()
    while ahead <= x // 2 < ahead + len(net[2]):
        _, start, follow = net[2][x // 2 - ahead]
        row += (1 - start if x & 1 else start,)
        x = follow ^ 1 if x & 1 else follow
    return (row, x)


class TraceTest(unittest.TestCase):
    def test_the_example(self):
        self.assertEqual(traced(("net", ("a",), (("r", 1, 2), ("s", 0, 5)), (), (("y", 6),), ()), 6), ((0, 0), 3))

    def test_literals(self):
        for literal, told in (
            (0, ((), 0)), (1, ((), 1)), (2, ((), 2)), (3, ((), 3)), (4, ((1,), 2)), (5, ((0,), 3)),
            (6, ((0, 0), 3)), (7, ((1, 1), 2)), (8, ((1, 1, 1), 2)), (9, ((0, 0, 0), 3)), (10, ((0,), 1)),
            (11, ((1,), 0)), (12, ((), 12)), (13, ((), 13)),
        ):
            self.assertEqual(traced(NET, literal), told)
            self.assertIs(is_plain(traced(NET, literal)), True)
        self.assertEqual(held_of(NET), ())

    def test_ends_in_an_and(self):
        net = ("net", ("a", "b"), (("r", 0, 13), ("s", 1, 6)), ((2, 8), (4, 10)), (), ())
        self.assertEqual(traced(net, 8), ((1, 0), 13))
        self.assertEqual(traced(net, 9), ((0, 1), 12))
        self.assertEqual(traced(net, 11), ((), 11))

    def test_held(self):
        net = ("net", ("a",), (("p", 0, 4), ("q", 0, 2), ("r", 0, 11), ("s", 1, 8), ("t", 0, 11)), ((2, 2),), (), ())
        self.assertEqual(held_of(net), ("p", "r", "s", "t"))
        for literal in range(2 * 8):
            with self.assertRaises(Held) as caught:
                traced(net, literal)
            self.assertEqual(caught.exception.name, "p")
            self.assertIsInstance(caught.exception, FabricError)

    def test_a_register_that_is_its_own_next(self):
        for follow in (4, 5):
            net = ("net", ("a",), (("r", 0, follow),), (), (), ())
            self.assertEqual(held_of(net), ("r",))
            for literal in (0, 2, 4):
                self.assertRaises(Held, traced, net, literal)

    def test_rings_and_what_leads_into_them(self):
        net = ("net", (), (("p", 0, 4), ("q", 0, 7), ("r", 1, 9), ("s", 0, 6), ("t", 0, 0)), (), (), ())
        self.assertEqual(held_of(net), ("p", "q", "r", "s"))
        net = ("net", (), (("p", 0, 10), ("q", 0, 2), ("r", 1, 5), ("s", 0, 6), ("t", 0, 0)), (), (), ())
        self.assertEqual(held_of(net), ())
        self.assertEqual(traced(net, 8), ((0, 1, 1, 1, 1), 1))

    def test_a_held_register_that_the_literal_does_not_reach(self):
        net = ("net", ("a",), (("p", 0, 2), ("q", 1, 6)), (), (), ())
        for literal in (2, 4, 5):
            with self.assertRaises(Held) as caught:
                traced(net, literal)
            self.assertEqual(caught.exception.name, "q")

    def test_no_registers(self):
        self.assertEqual(held_of(("net", (), (), (), (), ())), ())
        self.assertEqual(traced(("net", (), (), (), (), ()), 1), ((), 1))

    def test_random(self):
        seen = {True: 0, False: 0}
        for seed in range(400):
            source = random.Random(seed)
            net = random_net(source, source.randrange(3), source.randrange(6), source.randrange(4))
            held = held_of(net)
            self.assertEqual(held, slow_held(net))
            seen[bool(held)] += 1
            for literal in range(2 * (1 + len(net[1]) + len(net[2]) + len(net[3]))):
                if held:
                    self.assertRaises(Held, traced, net, literal)
                else:
                    self.assertEqual(traced(net, literal), slow_trace(net, literal))
        self.assertGreater(min(seen.values()), 50)

    def test_long_rows(self):
        regs = tuple((f"r{at}", at & 1, 2 * at + 1 if at else 1) for at in range(3000))
        net = ("net", (), regs, (), (), ())
        self.assertEqual(held_of(net), ())
        self.assertEqual(len(traced(net, 6000)[0]), 3000)
        regs = (("r0", 0, 6000),) + regs[1:]
        self.assertEqual(len(held_of(("net", (), regs, (), (), ()))), 3000)


if __name__ == "__main__":
    unittest.main()
