"""Deciding claims for ever."""
import itertools
import random
import unittest

from beatfabric.claims import decided, judge_states
from beatfabric.errors import TooMany, Unknown
from beatfabric.flatten import flatten
from beatfabric.graphof import graph_of
from beatfabric.netof import net_of
from beatfabric.reading import read_design
from tests.mutants import changed, relisted
from tests.netmaking import is_plain, shown
from tests.pairmaking import beat_from, held_bits, line, resized, rows_of, starts_of

LIGHT = """
module top {
  input car : 1; states s { red, green, amber }
  case s { at 0 { if car { go s to green; } } at 1 { go s to amber; } at 2 { go s to red; } }
  claim few = s != word(3, 2);
  claim never = ~(s is amber & car);
  claim calm = s is red | s is green | s is amber;
}
"""


def claiming(net):
    """The net whose outputs are claims."""
    return net[:4] + ((), net[4] + net[5])


def slow_decided(net, name, most=300):
    """Rows of one beat, of two beats and so on; None for too many states."""
    at = len(net[4]) + [claim for claim, _ in net[5]].index(name)
    rows = {starts_of(net): ()}
    while True:
        if len(rows) > most:
            return None
        found = [(len(row), row + (given,)) for state, row in rows.items() for given in rows_of(net)
                 if beat_from(net, state, given)[0][at] == 0]
        if found:
            return ("breaks", min(found)[1])
        more = dict(rows)
        for state, row in rows.items():
            for given in rows_of(net):
                behind = beat_from(net, state, given)[1]
                if behind not in more or (len(more[behind]), more[behind]) > (len(row) + 1, row + (given,)):
                    more[behind] = row + (given,)
        if more == rows:
            return ("holds", tuple(sorted(rows)))
        rows = more


def slow_judge_states(net, name, states):
    """The words of the document, one by one."""
    at = len(net[4]) + [claim for claim, _ in net[5]].index(name)
    if any(len(state) != len(net[2]) or any(bit not in (0, 1) for bit in state) for state in states):
        return False
    if starts_of(net) not in states:
        return False
    for state in states:
        for given in rows_of(net):
            told, behind = beat_from(net, state, given)
            if told[at] != 1 or behind not in states:
                return False
    return True


class DecidedTest(unittest.TestCase):
    def refused(self, part, net, name):
        with self.assertRaises(TooMany) as caught:
            decided(net, name)
        self.assertEqual(caught.exception.part, part)

    def test_a_design(self):
        net = net_of(graph_of(flatten(read_design(LIGHT))))
        self.assertEqual(decided(net, "few:0"), ("holds", ((0, 0), (0, 1), (1, 0))))
        self.assertEqual(decided(net, "calm:0"), ("holds", ((0, 0), (0, 1), (1, 0))))
        self.assertEqual(decided(net, "never:0"), ("breaks", ((1,), (0,), (1,))))

    def test_by_hand(self):
        net = ("net", ("a", "b"), (("r", 1, 2),), ((5, 6), (2, 7)), (("y", 2),), (("c", 11), ("y", 6), ("k", 1), ("n", 0)))
        self.assertEqual(decided(net, "c"), ("breaks", ((0, 0), (1, 0))))
        self.assertEqual(decided(net, "y"), ("breaks", ((0, 0), (0, 0))))
        self.assertEqual(decided(net, "k"), ("holds", ((0,), (1,))))
        self.assertEqual(decided(net, "n"), ("breaks", ((0, 0),)))

    def test_no_inputs(self):
        net = ("net", (), (("r", 1, 4), ("s", 1, 0)), (), (), (("c", 2), ("d", 1)))
        self.assertEqual(decided(net, "c"), ("breaks", ((), (), ())))
        self.assertEqual(decided(net, "d"), ("holds", ((0, 0), (1, 0), (1, 1))))
        self.assertEqual(decided(("net", (), (), (), (), (("d", 1),)), "d"), ("holds", ((),)))

    def test_unknown(self):
        """The name of an output, an input or a register is no claim's; that is told ahead of too many inputs."""
        net = ("net", tuple("abcdefghi"), (("r", 0, 2),), (), (("y", 2),), (("c", 1),))
        for name in ("y", "a", "r", "", "cc", "C"):
            for function in (decided, lambda net, name: judge_states(net, name, ((0,),))):
                with self.assertRaises(Unknown) as caught:
                    function(net, name)
                self.assertEqual(caught.exception.name, name)
        self.refused("inputs", net, "c")

    def test_inputs(self):
        for many in (5, 6, 7, 8):
            net = ("net", tuple(f"i{at}" for at in range(many)), (), (), (), (("c", 2 * many + 1), ("k", 1)))
            if many < 7:
                self.assertEqual(decided(net, "c"), ("breaks", ((0,) * (many - 1) + (1,),)))
                self.assertEqual(decided(net, "k"), ("holds", ((),)))
            else:
                self.refused("inputs", net, "c")
                self.refused("inputs", net, "k")
        self.refused("inputs", claiming(line(301, (1,), 7)), "y0")

    def test_many_states(self):
        """300 states are not too many, 301 are."""
        for wide in (0, 1):
            told = decided(claiming(line(300, (1,), wide)), "y0")
            self.assertEqual((told[0], len(told[1])), ("holds", 300))
            self.assertEqual(list(told[1]), sorted(set(told[1])))
            self.refused("states", claiming(line(301, (1,), wide)), "y0")

    def test_many_states_before_it_breaks(self):
        """Only those count that are reached by fewer beats than the breaking row has."""
        for beats in (1, 2, 299, 300):
            self.assertEqual(decided(claiming(line(400, (2 * beats + 1,))), "y0"), ("breaks", ((),) * beats))
        for beats in (301, 302):
            self.refused("states", claiming(line(400, (2 * beats + 1,))), "y0")

    def test_many_states_in_one_beat(self):
        net = held_bits(6, (), (1, 3, 5))
        self.assertEqual(decided(net, "c0"), ("breaks", ((0,) * 6,) * 2))
        self.refused("states", net, "c1")
        self.refused("states", net, "c2")
        net = held_bits(4, (), (1, 3, 5))
        self.assertEqual(decided(net, "c1"), ("breaks", ((0,) * 4,) * 3))
        self.refused("states", net, "c2")

    def test_random(self):
        counted = {"holds": 0, "breaks": 0}
        longest = 0
        for seed in range(500):
            source = random.Random(seed)
            net = resized(source, source.randrange(4), source.randrange(2), 3)
            for name in ("c0", "c1", "c2"):
                told = decided(net, name)
                self.assertEqual(told, slow_decided(net, name), (net, name))
                self.assertEqual(decided(net, name), told)
                self.assertIs(is_plain(told), True)
                counted[told[0]] += 1
                if told[0] == "holds":
                    self.assertIs(judge_states(net, name, told[1]), True)
                else:
                    longest = max(longest, len(told[1]))
                    at = len(net[4]) + int(name[1])
                    self.assertEqual([row[at] for row in shown(net, told[1])], [1] * (len(told[1]) - 1) + [0])
        self.assertGreater(min(counted.values()), 80)
        self.assertGreater(longest, 3)


class JudgeTest(unittest.TestCase):
    NET = net_of(graph_of(flatten(read_design(LIGHT))))
    STATES = ((0, 0), (0, 1), (1, 0))

    def test_by_hand(self):
        def judged(states, name="few:0"):
            return judge_states(self.NET, name, states)

        self.assertIs(judged(self.STATES), True)
        self.assertIs(judged(self.STATES, "never:0"), False)
        self.assertIs(judged(()), False)
        for states in itertools.permutations(self.STATES):
            self.assertIs(judged(states), True)
            self.assertIs(judged(states + states[:1]), True)
            self.assertIs(judged(states[1:]), False)
            self.assertIs(judged(states + ((1, 1),)), False)
            self.assertIs(judged(states[:2] + ((1, 1),)), False)
        for wrong in ((), (0,), (0, 0, 0), (0, 2), (-1, 0), (1, -1), (1000000, 0), (0, -1000000)):
            self.assertIs(judged(self.STATES + (wrong,)), False)
            self.assertIs(judged((wrong,) + self.STATES), False)
            self.assertIs(judged((wrong,)), False)

    def test_more_states(self):
        """States that are not reached can be there, if they are closed, too."""
        net = ("net", ("a",), (("r", 0, 4), ("s", 1, 6)), (), (), (("c", 6), ("k", 1), ("e", 5)))
        start = (0, 1)
        for name, more, told in (("c", (1, 1), True), ("c", (1, 0), False), ("k", (1, 0), True), ("e", (1, 1), False),
                                 ("e", (0, 0), True)):
            self.assertIs(judge_states(net, name, (start,)), True)
            self.assertIs(judge_states(net, name, (start, more)), told)
            self.assertIs(judge_states(net, name, (more,)), False)

    def test_many_inputs(self):
        for many in (7, 8):
            names = tuple(f"i{at}" for at in range(many))
            ands = [(2, 4)]
            for at in range(3, many + 1):
                ands.append((2 * at, 2 * (many + len(ands))))
            last = 2 * (many + len(ands))
            net = ("net", names, (("r", 0, 0),), tuple((x + 2 * (x > 2 * many), y + 2 * (y > 2 * many)) for x, y in ands),
                   (), (("c", last + 3), ("k", 1)))
            self.assertIs(judge_states(net, "k", ((0,),)), True)
            self.assertIs(judge_states(net, "c", ((0,),)), False)

    def test_long_papers(self):
        net = claiming(line(500, (1,)))
        states = tuple(tuple(int(at == place) for at in range(500)) for place in range(500))
        self.assertIs(judge_states(net, "y0", states), True)
        self.assertIs(judge_states(net, "y0", states[:-1]), False)

    def test_wrong_copies(self):
        counted = {True: 0, False: 0}
        for seed in range(500):
            source = random.Random(seed)
            net = resized(source, source.randrange(3), 1, 2, 3)
            word, states = decided(net, "c0")
            if word == "breaks":
                states = tuple(itertools.product((0, 1), repeat=len(net[2])))
                self.assertIs(judge_states(net, "c0", states), False)
                continue
            at = source.randrange(len(states))
            state = relisted(source, states[at]) if source.randrange(2) else states[at] + (0,)
            for paper in (changed(source, states), relisted(source, states), states[:at] + (state,) + states[at + 1:],
                          states + (tuple(source.randrange(2) for _ in net[2]),)):
                told = judge_states(net, "c0", paper)
                self.assertIs(told, slow_judge_states(net, "c0", paper), (net, paper))
                counted[told] += 1
        self.assertGreater(min(counted.values()), 100)


if __name__ == "__main__":
    unittest.main()
