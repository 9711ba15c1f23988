"""Runs of nets."""
import random
import unittest

from beatfabric.netruns import NetRun
from tests.netmaking import random_net, rows_of_bits

# y is a and not b or the register; the register turns over while a is 1.
NET = (
    "net", ("a", "b"), (("r", 0, 13), ("s", 1, 6)), ((2, 7), (3, 6), (11, 13), (2, 5)), (("y", 16), ("z", 8)), (("c", 15),),
)


def slow_bit(net, literal, bits):
    node = literal // 2
    first = 1 + len(net[1]) + len(net[2])
    if node == 0:
        bit = 0
    elif node < first:
        bit = bits[node - 1]
    else:
        left, right = net[3][node - first]
        bit = slow_bit(net, left, bits) * slow_bit(net, right, bits)
    return 1 - bit if literal % 2 else bit


class NetRunTest(unittest.TestCase):
    def test_beats(self):
        net = ("net", ("a",), (("r", 1, 2), ("s", 0, 5)), ((2, 4), (3, 6)), (("x", 8), ("y", 4)), (("c", 11), ("d", 1)))
        run = NetRun(net)
        self.assertEqual(run.state, (1, 0))
        self.assertEqual(run.beat((1,)), (1, 1, 1, 1))
        self.assertEqual(run.state, (1, 0))
        self.assertEqual(run.beat((0,)), (0, 1, 1, 1))
        self.assertEqual(run.state, (0, 0))
        self.assertEqual(run.beat((0,)), (0, 0, 1, 1))
        self.assertEqual(run.state, (0, 1))
        self.assertEqual(run.beat((0,)), (0, 0, 0, 1))

    def test_empty(self):
        run = NetRun(("net", (), (), (), (), ()))
        self.assertEqual(run.state, ())
        self.assertEqual(list(run.beats([(), ()])), [(), ()])

    def test_random(self):
        for seed in range(60):
            source = random.Random(seed)
            net = random_net(source)
            run = NetRun(net)
            state = tuple(start for _, start, _ in net[2])
            for row in rows_of_bits(source, net, 6):
                self.assertEqual(run.state, state)
                bits = row + state
                self.assertEqual(run.beat(row), tuple(slow_bit(net, literal, bits) for _, literal in net[4] + net[5]))
                state = tuple(slow_bit(net, follow, bits) for _, _, follow in net[2])

    def test_state(self):
        source = random.Random(3)
        rows = rows_of_bits(source, NET, 12)
        whole = list(NetRun(NET).beats(rows))
        run = NetRun(NET)
        list(run.beats(rows[:5]))
        kept = run.state
        other = NetRun(NET)
        other.state = kept
        self.assertEqual(other.state, kept)
        self.assertEqual(list(other.beats(rows[5:])), whole[5:])
        self.assertIsNone(other.resume(kept))
        self.assertEqual(list(other.beats(rows[5:])), whole[5:])
        self.assertEqual(run.state, kept)

    def test_trial(self):
        run = NetRun(NET)
        with run.trial() as held:
            self.assertIs(held, run)
            run.beat((1, 0))
            self.assertNotEqual(run.state, (0, 1))
            with run.trial():
                run.state = (0, 0)
            self.assertNotEqual(run.state, (0, 0))
        self.assertEqual(run.state, (0, 1))

    def test_trial_behind_an_error(self):
        run = NetRun(NET)
        with self.assertRaises(ZeroDivisionError):
            with run.trial():
                run.state = (1, 0)
                raise ZeroDivisionError
        self.assertEqual(run.state, (0, 1))
        with self.assertRaises(Exception):
            run.tried([(1, 0), None])
        self.assertEqual(run.state, (0, 1))

    def test_tried(self):
        run = NetRun(NET)
        rows = rows_of_bits(random.Random(4), NET, 8)
        told = run.tried(rows)
        self.assertEqual(run.state, (0, 1))
        self.assertEqual(run.tried(tuple(rows)), told)
        self.assertEqual(tuple(run.beats(rows)), told)

    def test_beats_are_done_when_asked_for(self):
        net = ("net", ("a",), (("r", 0, 2),), (), (("y", 4),), ())
        run = NetRun(net)
        told = run.beats(((1,), (0,)))
        self.assertEqual(run.state, (0,))
        self.assertEqual(next(told), (0,))
        self.assertEqual(run.state, (1,))
        run.state = (0,)
        self.assertEqual(next(told), (0,))

    def test_two_runs_do_not_meet(self):
        first, second = NetRun(NET), NetRun(NET)
        first.beat((1, 1))
        first.state = (1, 0)
        self.assertEqual(second.state, (0, 1))


if __name__ == "__main__":
    unittest.main()
