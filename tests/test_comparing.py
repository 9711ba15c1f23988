"""Comparing two nets for ever."""
import random
import unittest

from beatfabric.comparing import compared, judge_pairs
from beatfabric.errors import TooMany, Unlike
from tests.netmaking import is_plain, shown
from tests.pairmaking import (
    any_pair, held_bits, line, rows_of, slow_compared, slow_judge_pairs, starts_of,
)
from tests.mutants import changed, relisted

TOGGLE = ("net", ("a",), (("r", 0, 9),), ((2, 4), (3, 5), (7, 9)), (("y", 4),), ())
# The same with its register inverted.
MIRROR = ("net", ("a",), (("s", 1, 10),), ((2, 4), (3, 5), (7, 9)), (("z", 5),), ())


class ComparedTest(unittest.TestCase):
    def refused(self, part, net, other):
        with self.assertRaises(TooMany) as caught:
            compared(net, other)
        self.assertEqual(caught.exception.part, part)

    def test_alike(self):
        net = ("net", ("a",), (("r", 0, 2),), (), (("y", 4),), ())
        other = ("net", ("a",), (("s", 1, 3),), (), (("z", 5),), ())
        self.assertEqual(compared(net, other), ("alike", (((0,), (1,)), ((1,), (0,)))))

    def test_parting(self):
        """The least row of the fewest beats."""
        net = ("net", ("a", "b"), (("r", 0, 2), ("s", 0, 6)), ((4, 8),), (("y", 10),), ())
        other = ("net", ("a", "b"), (("t", 0, 2),), (), (("y", 0),), ())
        self.assertEqual(compared(net, other), ("part", ((1, 0), (0, 0), (0, 1))))
        # Another way that is as long: of several the least tuple.
        net = ("net", ("a", "b"), (("r", 0, 11),), ((3, 5), (3, 4)), (("y", 6),), ())
        told = compared(net, ("net", ("a", "b"), (), (), (("y", 0),), ()))
        self.assertEqual(told, ("part", ((0, 0), (0, 0))))

    def test_the_first_beat(self):
        net = ("net", ("a", "b"), (), ((2, 4),), (("y", 6),), ())
        other = ("net", ("a", "b"), (), (), (("y", 4),), ())
        self.assertEqual(compared(net, other), ("part", ((0, 1),)))
        other = ("net", ("a", "b"), (), (), (("y", 0),), ())
        self.assertEqual(compared(net, other), ("part", ((1, 1),)))
        self.assertEqual(compared(net, net), ("alike", (((), ()),)))

    def test_no_inputs(self):
        net = ("net", (), (("r", 0, 3), ("s", 0, 2)), (), (("y", 4),), ())
        other = ("net", (), (), (), (("y", 0),), ())
        self.assertEqual(compared(net, other), ("part", ((), (), ())))
        self.assertEqual(compared(other, other), ("alike", (((), ()),)))

    def test_claims_are_shown(self):
        net = ("net", ("a",), (), (), (), (("c", 2),))
        self.assertEqual(compared(net, net[:5] + ((("c", 1),),)), ("part", ((0,),)))
        self.assertEqual(compared(net, net[:5] + ((("d", 3),),)), ("part", ((0,),)))
        self.assertEqual(compared(net, net[:5] + ((("d", 2),),)), ("alike", (((), ()),)))

    def test_nothing_shown(self):
        net = ("net", ("a",), (("r", 0, 2),), (), (), ())
        self.assertEqual(compared(net, net), ("alike", (((0,), (0,)), ((1,), (1,)))))

    def test_names(self):
        """Those of inputs must be the same in order; all others are free, also with a stroke behind."""
        net = ("net", ("a", "b"), (("r", 0, 2), ("r'", 0, 4)), (), (("y", 6), ("y'", 8)), (("c", 2), ("c'", 1)))
        other = ("net", ("a", "b"), (("x", 0, 2), ("z", 0, 4)), (), (("p", 6), ("q", 8)), (("d", 2), ("e", 1)))
        self.assertEqual(compared(net, other)[0], "alike")
        self.assertEqual(compared(net, net)[0], "alike")

    def unlike(self, net, other):
        for one, mate in ((net, other), (other, net)):
            with self.assertRaises(Unlike):
                compared(one, mate)
            with self.assertRaises(Unlike):
                judge_pairs(one, mate, ())

    def test_unlike(self):
        net = ("net", ("a", "b"), (), (), (("y", 2),), (("c", 4),))
        self.unlike(net, ("net", ("b", "a"), (), (), (("y", 2),), (("c", 4),)))
        self.unlike(net, ("net", ("a",), (), (), (("y", 2),), (("c", 2),)))
        self.unlike(net, ("net", ("a", "b"), (), (), (("y", 2), ("z", 2)), (("c", 4),)))
        self.unlike(net, ("net", ("a", "b"), (), (), (("y", 2),), ()))
        self.unlike(net, ("net", ("a", "b"), (), (), (), (("c", 2), ("y", 2))))
        self.unlike(net, ("net", ("a", "b"), (), (), (("y", 2), ("c", 4)), ()))

    def test_inputs(self):
        """6 inputs and 7; unlike nets are told first."""
        for many in (6, 7, 8):
            names = tuple(f"i{at}" for at in range(many))
            net = ("net", names, (), (), (("y", 2),), ())
            other = ("net", names, (), (), (("y", 2 * many),), ())
            if many == 6:
                self.assertEqual(compared(net, other), ("part", ((0, 0, 0, 0, 0, 1),)))
            else:
                self.refused("inputs", net, other)
                self.unlike(net, ("net", names[:-1] + ("z",), (), (), (("y", 2),), ()))
                # Ahead of too many states, too.
                self.refused("inputs", line(301, (2,), many), line(301, (2,), many))

    def test_many_states(self):
        """300 pairs are not too many, 301 are."""
        for wide in (0, 1):
            told = compared(line(300, (6,), wide), line(300, (6,), wide))
            self.assertEqual(told[0], "alike")
            self.assertEqual(len(told[1]), 300)
            self.assertEqual(list(told[1]), sorted(set(told[1])))
            self.assertEqual(len(compared(line(15, (4,), wide, 0), line(20, (4,), wide, 0))[1]), 1)
            self.assertEqual(len(compared(line(15, (0,), wide), line(20, (0,), wide))[1]), 60)
            self.refused("states", line(301, (6,), wide), line(301, (6,), wide))
        self.refused("states", line(43, (0,)), line(7, (0,)))

    def test_many_states_before_parting(self):
        """Only those count that are reached by fewer beats than the parting row has."""
        for many, wide in ((400, 0), (302, 1)):
            for beats in (1, 2, 298, 299, 300):
                # The 1 comes to the register with number beats - 1 behind beats - 1 beats.
                literal = 2 * (1 + wide + beats - 1)
                told = compared(line(many, (literal,), wide), line(1, (0,), wide, 0))
                self.assertEqual(told, ("part", ((0,) * wide,) * beats), beats)
            self.refused("states", line(many, (2 * (1 + wide + 300),), wide), line(1, (0,), wide, 0))
            self.refused("states", line(many, (2 * (1 + wide + 301),), wide), line(1, (0,), wide, 0))

    def test_many_states_in_one_beat(self):
        """With 6 inputs there are 65 pairs behind one beat, and more than 300 behind two."""
        other = ("net", tuple(f"i{at}" for at in range(6)), (), (), (("y", 0),), ())
        self.assertEqual(compared(held_bits(6, (1,)), other), ("part", ((0,) * 6,)))
        self.assertEqual(compared(held_bits(6, (0,)), other), ("part", ((0,) * 6,) * 2))
        self.refused("states", held_bits(6, (2,)), other)
        self.refused("states", held_bits(6, (4,)), other)
        other = ("net", ("i0", "i1", "i2", "i3"), (), (), (("y", 0),), ())
        self.assertEqual(compared(held_bits(4, (2,)), other), ("part", ((0,) * 4,) * 3))
        self.refused("states", held_bits(4, (4,)), other)

    def test_random(self):
        counted = {"part": 0, "alike": 0}
        longest = 0
        for seed in range(500):
            source = random.Random(seed)
            net, other = any_pair(source)
            told = compared(net, other)
            self.assertEqual(told, slow_compared(net, other), (net, other))
            self.assertEqual(compared(net, other), told)
            self.assertIs(is_plain(told), True)
            counted[told[0]] += 1
            if told[0] == "part":
                longest = max(longest, len(told[1]))
                one, mate = shown(net, told[1]), shown(other, told[1])
                self.assertEqual(one[:-1], mate[:-1])
                self.assertNotEqual(one[-1], mate[-1])
            else:
                self.assertIs(judge_pairs(net, other, told[1]), True)
        self.assertGreater(min(counted.values()), 60)
        self.assertGreater(longest, 2)


class JudgeTest(unittest.TestCase):
    NET = ("net", ("a",), (("r", 0, 2), ("s", 0, 4)), (), (("y", 6),), ())
    OTHER = ("net", ("a",), (("r", 1, 3), ("s", 1, 4)), (), (("y", 7),), ())
    PAIRS = (((0, 0), (1, 1)), ((0, 1), (1, 0)), ((1, 0), (0, 1)), ((1, 1), (0, 0)))

    def judged(self, pairs, net=NET, other=OTHER):
        return judge_pairs(net, other, pairs)

    def test_by_hand(self):
        self.assertEqual(compared(self.NET, self.OTHER), ("alike", self.PAIRS))
        for pairs in (self.PAIRS, self.PAIRS[::-1], self.PAIRS + self.PAIRS, self.PAIRS + self.PAIRS[2:3]):
            self.assertIs(self.judged(pairs), True)
        self.assertIs(self.judged(()), False)
        for at in range(4):
            self.assertIs(self.judged(self.PAIRS[:at] + self.PAIRS[at + 1:]), False)

    def test_more_pairs(self):
        """Any pairs that are closed, reached or not; none that parts or leads out."""
        net = ("net", ("a",), (("r", 0, 4),), (), (("y", 4),), ())
        start = ((0,), (0,))
        for pairs, told in (((start,), True), ((start, ((1,), (1,))), True), ((start, ((1,), (0,))), False),
                            ((((1,), (1,)),), False), ((start, start), True)):
            self.assertIs(self.judged(pairs, net, net), told)
        self.assertIs(self.judged((((0, 0), (1, 1)),) + self.PAIRS + (((1, 0), (1, 0)),)), False)

    def test_states_of_other_lengths(self):
        """The bits of both states together are as many as needed, and yet it is not taken."""
        for wrong in (((0,), (0, 1, 1)), ((0, 0, 1), (1,)), ((), (0, 0, 1, 1)), ((0, 0, 1, 1), ()), ((0, 0), (1, 1, 0)),
                      ((0,), (1, 1)), ((), ())):
            self.assertIs(self.judged((wrong,) + self.PAIRS[1:]), False)
            self.assertIs(self.judged(self.PAIRS + (wrong,)), False)

    def test_numbers_that_are_no_bits(self):
        for number in (-1000000, -1, 2, 3, 1000000):
            for wrong in (((0, number), (1, 0)), ((number, 0), (1, 1)), ((0, 1), (1, number)), ((0, 0), (number, 1))):
                self.assertIs(self.judged(self.PAIRS + (wrong,)), False)
                self.assertIs(self.judged((wrong,) + self.PAIRS[1:]), False)

    def test_nets_that_part(self):
        self.assertIs(self.judged(self.PAIRS, self.NET, self.OTHER[:4] + ((("y", 6),), ())), False)
        everything = tuple((one, mate) for one, _ in self.PAIRS for _, mate in self.PAIRS)
        self.assertIs(self.judged(everything), False)
        self.assertIs(self.judged(everything, self.NET, self.OTHER[:4] + ((("z", 6),), ())), False)
        nothing = self.NET[:4] + ((), ())
        self.assertIs(self.judged(everything, nothing, self.OTHER[:4] + ((), ())), True)

    def test_many_inputs(self):
        """The judge looks at all inputs of nets with 7 and 8."""
        for many in (7, 8):
            names = tuple(f"i{at}" for at in range(many))
            ands = [(2, 4)]
            for at in range(3, many + 1):
                ands.append((2 * at, 2 * (many + len(ands))))
            net = ("net", names, (), tuple(ands), (("y", 2 * (many + len(ands))),), ())
            self.assertIs(self.judged((((), ()),), net, net), True)
            self.assertIs(self.judged((((), ()),), net, net[:4] + ((("y", 0),), ())), False)

    def test_long_papers(self):
        net = line(400, (2,))
        states = [tuple(int(at == place) for at in range(400)) for place in range(400)]
        pairs = tuple((state, state) for state in states)
        self.assertIs(self.judged(pairs, net, net), True)
        self.assertIs(self.judged(pairs[:-1], net, net), False)

    def test_wrong_copies(self):
        counted = {True: 0, False: 0}
        for seed in range(600):
            source = random.Random(seed)
            net, other = any_pair(source, 2, 3)
            word, pairs = compared(net, other)
            if word == "part":
                pairs = ((starts_of(net), starts_of(other)),)
                self.assertIs(judge_pairs(net, other, pairs), slow_judge_pairs(net, other, pairs))
                continue
            more = pairs + (
                (tuple(source.randrange(2) for _ in net[2]), tuple(source.randrange(2) for _ in other[2])),
            )
            at = source.randrange(len(pairs))
            kind = source.randrange(2)
            state = pairs[at][kind]
            state = relisted(source, state) if source.randrange(2) else state + (source.randrange(2),)
            pair = (state, pairs[at][1]) if kind == 0 else (pairs[at][0], state)
            for paper in (changed(source, pairs), relisted(source, pairs), more, pairs[:at] + (pair,) + pairs[at + 1:]):
                told = judge_pairs(net, other, paper)
                self.assertIs(told, slow_judge_pairs(net, other, paper), (net, other, paper))
                counted[told] += 1
        self.assertGreater(min(counted.values()), 200)

    def test_ring_of_states(self):
        self.assertEqual(len(rows_of(TOGGLE)), 2)
        self.assertEqual(compared(TOGGLE, TOGGLE)[0], "alike")
        self.assertEqual(compared(TOGGLE, MIRROR), slow_compared(TOGGLE, MIRROR))


if __name__ == "__main__":
    unittest.main()
