"""The finder of refutations."""
import itertools
import random
import unittest

from beatfabric.clauses import judge_refutation
from beatfabric.errors import TooMany
from beatfabric.netruns import node_bits
from beatfabric.nets import support
from beatfabric.refuting import refutation
from tests.netmaking import is_plain, mixed_net, random_net
from tests.refutations import meets, random_clauses, slow_judge


def parity(many, split):
    """A net with two forms of the exclusive or of inputs: from the left, and from two halves; their literals."""
    ands = []

    def xor(one, other):
        base = 2 * (1 + many)
        ands.extend([tuple(sorted((one, other))), tuple(sorted((one ^ 1, other ^ 1)))])
        ands.append((base + 2 * len(ands) - 3, base + 2 * len(ands) - 1))
        return base + 2 * len(ands) - 2

    def fold(literals):
        last = literals[0]
        for x in literals[1:]:
            last = xor(last, x)
        return last

    inputs = [2 * (1 + at) for at in range(many)]
    left = fold(inputs)
    right = xor(fold(inputs[:split]), fold(inputs[split:]))
    return ("net", tuple(f"i{at}" for at in range(many)), (), tuple(ands), (), ()), left, right


def variables_of(net, given, assumed):
    return support(net, tuple(x // 2 for x in assumed) + tuple(x // 2 for clause in given for x in clause))


class RefutingTest(unittest.TestCase):
    def check(self, net, given, assumed):
        """Compares with all bits of the inputs and registers; returns the answer."""
        told = refutation(net, given, assumed)
        self.assertEqual(refutation(net, given, assumed), told)
        self.assertIs(is_plain(told), True)
        kind, answer = told
        sources = len(net[1]) + len(net[2])
        counted = variables_of(net, given, assumed)
        if kind == "refuted":
            self.assertLessEqual(len(answer), 2 ** (len(counted) + 1))
            self.assertIs(judge_refutation(net, given, assumed, answer), True)
            found = [bits for bits in itertools.product((0, 1), repeat=sources)
                     if meets(node_bits(net, bits), given, assumed)]
            self.assertEqual(found, [])
        else:
            self.assertEqual(kind, "met")
            free = [(0, 1) if 1 + at in counted else (0,) for at in range(sources)]
            for bits in itertools.product(*free):
                if meets(node_bits(net, bits), given, assumed):
                    self.assertEqual(answer, bits)
                    break
            else:
                self.fail("nothing meets it")
        return told

    def test_nothing_assumed(self):
        for net in (("net", (), (), (), (), ()), ("net", ("a", "b"), (("r", 1, 3),), ((2, 4),), (), ())):
            self.assertEqual(refutation(net, (), ()), ("met", (0,) * (len(net[1]) + len(net[2]))))
            self.assertEqual(refutation(net, (), (1,)), ("met", (0,) * (len(net[1]) + len(net[2]))))
            self.assertEqual(refutation(net, (), (0,))[0], "refuted")
            self.assertEqual(refutation(net, ((),), ())[0], "refuted")
            self.assertEqual(refutation(net, ((), (1,)), (1,))[0], "refuted")
            self.assertEqual(refutation(net, ((0,),), ())[0], "refuted")

    def test_the_least_bits(self):
        net = ("net", ("a", "b"), (("r", 0, 0), ("s", 1, 0)), ((3, 5), (6, 8)), (), ())
        self.assertEqual(refutation(net, (), (11,)), ("met", (0, 1, 0, 0)))
        self.assertEqual(refutation(net, (), (10, 12)), ("met", (0, 0, 1, 1)))
        self.assertEqual(refutation(net, (), (13, 6)), ("met", (0, 0, 1, 0)))
        self.assertEqual(refutation(net, ((2, 4),), (7,)), ("met", (0, 1, 0, 0)))
        self.assertEqual(refutation(net, ((3,), (5, 2)), ()), ("met", (0, 0, 0, 0)))
        self.assertEqual(refutation(net, ((2, 9), (3, 8)), (2,)), ("met", (1, 0, 0, 1)))

    def test_outside_of_the_support(self):
        """Registers that nothing tells of have 0, also where they start with 1."""
        net = ("net", ("a", "b", "c"), (("r", 1, 8),), ((2, 6),), (), ())
        self.assertEqual(refutation(net, (), (10,)), ("met", (1, 0, 1, 0)))
        self.assertEqual(refutation(net, (), (8,)), ("met", (0, 0, 0, 1)))
        self.assertEqual(refutation(net, ((9, 8),), ()), ("met", (0, 0, 0, 0)))

    def test_opposite_literals(self):
        net = ("net", ("a", "b"), (), ((2, 4),), (), ())
        self.assertEqual(self.check(net, (), (2, 3))[0], "refuted")
        self.assertEqual(self.check(net, ((2,), (3,)), ())[0], "refuted")
        self.assertEqual(self.check(net, ((2, 3),), (4,))[0], "met")
        self.assertEqual(self.check(net, ((2, 2, 4), (5, 5)), (3,))[0], "refuted")

    def test_random(self):
        counted = {"refuted": 0, "met": 0}
        for seed in range(400):
            source = random.Random(seed)
            net = random_net(source, source.randrange(4), source.randrange(4), source.randrange(16))
            if seed % 2:
                net = mixed_net(source, source.randrange(1, 5), source.randrange(3), source.randrange(25))
            given = random_clauses(source, net, source.randrange(6))
            assumed = random_clauses(source, net, 1, 4)[0]
            kind, answer = self.check(net, given, assumed)
            counted[kind] += 1
            if kind == "refuted" and seed % 4 == 0:
                self.assertIs(slow_judge(net, given, assumed, answer), True)
        self.assertGreater(min(counted.values()), 80)

    def test_parities(self):
        """Nothing but splitting on all inputs refutes these."""
        for many in range(2, 9):
            net, left, right = parity(many, max(1, many // 2))
            for assumed in ((left, right ^ 1), (left ^ 1, right)):
                kind, steps = refutation(net, (), assumed)
                self.assertEqual(kind, "refuted")
                self.assertLessEqual(len(steps), 2 ** (many + 1))
                self.assertIs(judge_refutation(net, (), assumed, steps), True)
            kind, bits = refutation(net, (), (left, right))
            self.assertEqual((kind, bits), ("met", (0,) * (many - 1) + (1,)))

    def test_ten_and_eleven_in_the_support(self):
        net, left, right = parity(10, 3)
        kind, steps = refutation(net, (), (left, right ^ 1))
        self.assertEqual(kind, "refuted")
        self.assertLessEqual(len(steps), 2 ** 11)
        self.assertIs(judge_refutation(net, (), (left, right ^ 1), steps), True)
        net, left, right = parity(11, 3)
        with self.assertRaises(TooMany) as caught:
            refutation(net, (), (left, right ^ 1))
        self.assertEqual(caught.exception.part, "support")

    def test_what_counts_for_the_support(self):
        """Given clauses count, also those that hold always; nodes that are not told of do not."""
        inputs = tuple(f"i{at}" for at in range(8))
        regs = tuple((f"r{at}", at & 1, 0) for at in range(6))
        net = ("net", inputs, regs, ((2, 4), (6, 28)), (), ())
        literals = tuple(2 * (1 + at) for at in range(14))
        self.assertEqual(refutation(net, (), literals[:10]), ("met", (1,) * 10 + (0,) * 4))
        self.assertEqual(refutation(net, (literals[4:],), ())[0], "met")
        for given, assumed in (
            ((), literals[:11]), ((literals[3:],), ()), (((2, 3), literals[4:]), ()), (((),), literals[:11]),
            ((), (0,) + literals[:11]), ((), literals[4:13] + (30,)), (((1,) + literals[:11],), ()),
        ):
            with self.assertRaises(TooMany) as caught:
                refutation(net, given, assumed)
            self.assertEqual(caught.exception.part, "support")
        self.assertEqual(refutation(net, (), literals[5:13] + (30,))[0], "met")

    def test_many_inputs_outside(self):
        inputs = tuple(f"i{at}" for at in range(200))
        net = ("net", inputs, (), ((2, 400), (2, 403)), (), ())
        self.assertEqual(refutation(net, (), (402,)), ("met", (1,) + (0,) * 198 + (1,)))
        self.assertEqual(refutation(net, (), (402, 404))[0], "refuted")


if __name__ == "__main__":
    unittest.main()
