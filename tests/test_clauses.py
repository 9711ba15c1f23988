"""The clauses of nets, and the judge of refutations."""
import random
import unittest

from beatfabric.clauses import clauses_of, judge_refutation
from beatfabric.refuting import refutation
from tests.mutants import changed, relisted
from tests.netmaking import is_plain, random_net
from tests.refutations import random_clauses, slow_clauses, slow_judge, wrong_refutations

# Node 3 is a & b, node 4 is a & ~b, node 5 is ~3 & ~4, that is ~a.
NET = ("net", ("a", "b"), (), ((2, 4), (2, 5), (7, 9)), (("y", 10),), ())
EMPTY = ("net", (), (), (), (), ())


class ClausesTest(unittest.TestCase):
    def test_order(self):
        self.assertEqual(clauses_of(EMPTY), ((1,),))
        self.assertEqual(clauses_of(NET), (
            (1,), (7, 2), (7, 4), (6, 3, 5), (9, 2), (9, 5), (8, 3, 4), (11, 7), (11, 9), (10, 6, 8),
        ))

    def test_random(self):
        for seed in range(50):
            net = random_net(random.Random(seed), 2, 2, 10)
            told = clauses_of(net)
            self.assertEqual(told, tuple(slow_clauses(net)))
            self.assertEqual(clauses_of(net), told)
            self.assertIs(is_plain(told), True)


class JudgeTest(unittest.TestCase):
    def good(self, given, assumed, steps, net=NET):
        self.assertIs(judge_refutation(net, given, assumed, steps), True)

    def bad(self, given, assumed, steps, net=NET):
        self.assertIs(judge_refutation(net, given, assumed, steps), False)

    def test_unit_steps_alone(self):
        self.good((), (6, 3), ((),))
        self.good((), (0,), ((),))
        self.good((), (2, 3), ((),))
        self.good((), (0,), ((),), EMPTY)
        self.good((), (6, 8), ((),))
        self.bad((), (1,), ((),))
        self.bad((), (2,), ((),))

    def test_steps_are_needed(self):
        """One of four ands is 1, but no unit step tells it: a or b has to be split on."""
        net = ("net", ("a", "b"), (), ((2, 4), (2, 5), (3, 4), (3, 5), (7, 9), (11, 13), (14, 16)), (), ())
        self.bad((), (18,), ((),), net)
        self.good((), (18,), ((3,), ()), net)
        self.good((), (18,), ((2,), (4,), ()), net)
        self.bad((), (18,), ((3,),), net)
        self.bad((), (18,), ((), (3,)), net)

    def test_steps_by_steps_ahead(self):
        net = ("net", ("a", "b", "c"), (), (), (), ())
        given = ((2, 4, 6), (2, 4, 7), (2, 5, 6), (2, 5, 7), (3, 4, 6), (3, 4, 7), (3, 5, 6), (3, 5, 7))
        self.good(given, (), ((2, 4), (2,), (4,), ()), net)
        self.bad(given, (), ((2,), (4,), ()), net)
        self.bad(given, (), ((2, 4), ()), net)
        self.bad(given, (), ((2,), (2, 4), (4,), ()), net)
        self.good(given, (2,), ((4,), ()), net)
        self.bad(given, (2,), ((),), net)
        self.good(given, (2, 4), ((),), net)

    def test_given_clauses(self):
        self.good(((),), (), ((),))
        self.good(((),), (), ((),), EMPTY)
        self.good(((2,),), (3,), ((),))
        self.good(((6, 6),), (3,), ((),))
        self.good(((0, 0, 0),), (), ((),))
        self.bad(((2, 3),), (2,), ((),))
        self.bad(((2, 3, 6),), (3,), ((),))
        self.good(((2, 4), (2, 5)), (3,), ((),))
        self.bad(((2, 4),), (3,), ((),))
        self.good(((2, 4),), (3, 5), ((),))
        self.bad((), (), ((),))
        self.bad(((1,),), (1, 1), ((),))

    def test_literals_that_stand_twice(self):
        self.good(((2, 2, 4, 4),), (5, 5, 3), ((),))
        self.good(((2, 2, 4, 4), (3, 3), (5, 5, 5)), (), ((),))
        self.good(((2, 2),), (3,), ((2, 2, 3), ()))

    def test_steps_that_hold_always(self):
        self.good((), (6, 3), ((2, 3), (1,), (5, 4, 4), ()))
        self.good((), (6, 3), ((), ()))
        self.bad((), (2,), ((2, 3), (1,), ()))

    def test_wrong_refutations(self):
        self.good((), (6, 3), ((1,), ()))
        for steps in wrong_refutations(((1,), ()), 12):
            self.bad((), (6, 3), steps)

    def test_numbers_of_steps(self):
        self.good((), (6, 3), ((1,),) * 4095 + ((),))
        self.bad((), (6, 3), ((1,),) * 4096 + ((),))
        self.good((), (6, 3), ((),) * 4096)
        self.bad((), (6, 3), ((),) * 4097)
        self.bad((), (6, 3), ())

    def test_literals_that_do_not_exist(self):
        """In the steps, and in what is given and assumed, also where they are not needed."""
        for x in (-1, -2, -12, 12, 13, 1000000, -1000000):
            self.bad((), (6, 3), ((x,), ()))
            self.bad((), (6, 3), ((1, x), ()))
            self.bad((), (6, 3, x), ((),))
            self.bad((), (x,), ((),))
            self.bad(((x,),), (6, 3), ((),))
            self.bad(((1, x), ()), (6, 3), ((),))
        self.good(((11,),), (6, 3, 11), ((11, 10), ()))
        self.bad((), (2,), ((),), EMPTY)

    def test_ands_above_and_beside(self):
        """Steps and given clauses about nodes that the assumed literals do not reach."""
        net = ("net", ("a", "b"), (), ((2, 4), (3, 5), (7, 9), (6, 10), (7, 11)), (), ())
        self.good(((12,),), (3,), ((),), net)
        self.good((), (12,), ((),), net)
        for assumed in ((2, 4), (2,), (10,), (11, 2), (14,)):
            for steps in (((),), ((12,), ()), ((13,), ()), ((13,), (15, 12), ()), ((14,), ()), ((15,), ())):
                self.assertIs(judge_refutation(net, (), assumed, steps), slow_judge(net, (), assumed, steps))

    def test_random_steps(self):
        counted = {True: 0, False: 0}
        for seed in range(400):
            source = random.Random(seed)
            net = random_net(source, source.randrange(1, 4), source.randrange(3), source.randrange(8))
            given = random_clauses(source, net, source.randrange(4))
            assumed = tuple(x for clause in random_clauses(source, net, 1) for x in clause)
            kind, steps = refutation(net, given, assumed)
            if kind == "met":
                steps = random_clauses(source, net, source.randrange(4), 4)
                if source.randrange(4):
                    steps += ((),)
            else:
                self.assertIs(judge_refutation(net, given, assumed, steps), True)
            for _ in range(6):
                told = judge_refutation(net, given, assumed, steps)
                self.assertIs(told, slow_judge(net, given, assumed, steps), (net, given, assumed, steps))
                counted[told] += 1
                steps = changed(source, steps) if source.randrange(2) else relisted(source, steps)
        self.assertGreater(min(counted.values()), 200)

    def test_random_given(self):
        """Wrong numbers among what is given and assumed."""
        for seed in range(150):
            source = random.Random(seed)
            net = random_net(source, 2, 1, 4)
            given = changed(source, random_clauses(source, net, 4))
            assumed = changed(source, random_clauses(source, net, 1)[0])
            for steps in (((),), random_clauses(source, net, 2) + ((),)):
                self.assertIs(judge_refutation(net, given, assumed, steps), slow_judge(net, given, assumed, steps))

    def test_long_chains(self):
        many = 3000
        ands = tuple((2 * (at + 1), 2) for at in range(many))
        net = ("net", ("a",), (), ands, (), ())
        self.good((), (2 * (many + 1), 3), ((),), net)
        self.bad((), (2 * (many + 1), 2), ((),), net)
        self.good((), (2 * (many + 1) + 1, 2), ((),), net)


if __name__ == "__main__":
    unittest.main()
