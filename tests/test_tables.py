"""The tables of nets and covers, and their runs."""
import itertools
import random
import unittest

from beatfabric.covering import cover_of
from beatfabric.covers import judge_cover
from beatfabric.netof import net_of
from beatfabric.netruns import NetRun
from beatfabric.tables import TablesRun, tables_of
from tests.netmaking import any_mixed_net, is_plain, random_net, rows_of_bits, shown
from tests.test_covers import COVER, NET, grown_cover
from tests.test_netof import SHAPES, small_graph
from tests.test_rewriting import slow_bit


def slow_tables(net, cover):
    """The words of the document, one by one."""
    _, inputs, regs, _, outputs, claims = net
    plain = [2 * (1 + at) for at in range(len(inputs) + len(regs))]
    refs = plain + [literal for literal, _ in cover]
    tables = []
    for literal, leaves in cover:
        bits = []
        for b in range(2 ** len(leaves)):
            told = [b // 2 ** j % 2 ^ leaf & 1 for j, leaf in enumerate(leaves)]
            bits.append(slow_bit(net, literal // 2, [leaf // 2 for leaf in leaves], told) ^ literal & 1)
        tables.append((tuple(refs.index(leaf) for leaf in leaves), tuple(bits)))
    return (
        "tables", inputs, tuple((name, start, refs.index(x)) for name, start, x in regs), tuple(tables),
        tuple((name, refs.index(x)) for name, x in outputs + claims),
    )


class TablesTest(unittest.TestCase):
    def check(self, net, cover, rows):
        tables = tables_of(net, cover)
        self.assertEqual(tables, slow_tables(net, cover))
        self.assertEqual(tables_of(net, cover), tables)
        self.assertIs(is_plain(tables), True)
        run, other = TablesRun(tables), NetRun(net)
        for row in rows:
            self.assertEqual(run.beat(row), other.beat(row))
            self.assertEqual(run.state, other.state)
        return tables

    def test_by_hand(self):
        self.assertEqual(tables_of(NET, COVER), (
            "tables", ("a", "b", "c"), (("r", 1, 6),),
            (((0,), (1, 0)), ((0, 1), (0, 0, 0, 1)), ((2, 5), (1, 0, 1, 1)), ((3, 5, 6), (0, 0, 0, 0, 0, 0, 0, 1))),
            (("y", 7), ("z", 4), ("k", 3)),
        ))

    def test_empty(self):
        self.assertEqual(tables_of(("net", (), (), (), (), ()), ()), ("tables", (), (), (), ()))
        net = ("net", ("a",), (("r", 1, 4),), (), (("y", 2),), (("c", 4),))
        self.assertEqual(tables_of(net, ()), ("tables", ("a",), (("r", 1, 1),), (), (("y", 0), ("c", 1))))
        run = TablesRun(tables_of(net, ()))
        self.assertEqual(run.beat((0,)), (0, 1))

    def test_constants(self):
        net = ("net", ("a",), (("r", 0, 1),), (), (("y", 0), ("z", 1)), (("c", 5),))
        tables = tables_of(net, ((0, ()), (1, ()), (5, (4,))))
        self.assertEqual(tables[3], (((), (0,)), ((), (1,)), ((1,), (1, 0))))
        self.assertEqual(list(TablesRun(tables).beats([(0,), (1,)])), [(0, 1, 1), (0, 1, 0)])

    def test_both_literals_of_a_node(self):
        net = ("net", ("a", "b"), (), ((2, 4),), (("y", 6), ("z", 7)), ())
        self.assertEqual(tables_of(net, ((6, (2, 4)), (7, (6,))))[3], (((0, 1), (0, 0, 0, 1)), ((2,), (1, 0))))
        self.assertEqual(tables_of(net, ((6, (2, 4)), (7, (4, 6))))[3][1], ((1, 2), (1, 1, 0, 0)))
        self.assertEqual(tables_of(net, ((6, (2, 4)), (7, (2, 4))))[3][1], ((0, 1), (1, 1, 1, 0)))

    def test_inverted_leaves(self):
        net = ("net", ("a", "b"), (), ((2, 4), (3, 7)), (("y", 8),), ())
        cover = ((3, (2,)), (7, (2, 4)), (8, (3, 7)))
        self.assertIs(judge_cover(net, 4, cover), True)
        self.assertEqual(tables_of(net, cover)[3], (((0,), (1, 0)), ((0, 1), (1, 1, 1, 0)), ((2, 3), (0, 0, 0, 1))))

    def test_leaves_that_are_not_needed(self):
        net = ("net", ("a", "b", "c"), (), ((2, 4),), (("y", 9),), ())
        self.assertEqual(tables_of(net, ((9, (2, 4, 6)),))[3], (((0, 1, 2), (1, 1, 1, 0, 1, 1, 1, 0)),))

    def test_all_inputs_from_the_starts_on(self):
        for seed in range(60):
            source = random.Random(seed)
            net = random_net(source, 2, source.randrange(4), source.randrange(10), 3)
            cover = grown_cover(source, net, 4)
            if not judge_cover(net, 4, cover):
                continue
            tables = self.check(net, cover, [])
            for rows in itertools.product(itertools.product((0, 1), repeat=2), repeat=3):
                self.assertEqual(list(TablesRun(tables).beats(rows)), shown(net, rows))

    def test_random_covers(self):
        taken = 0
        for seed in range(300):
            source = random.Random(seed)
            net = random_net(source, source.randrange(1, 5), source.randrange(4), source.randrange(20), 5)
            for k in (2, 3, 4):
                cover = grown_cover(source, net, k)
                if judge_cover(net, k, cover):
                    taken += 1
                    self.check(net, cover, rows_of_bits(source, net, 8))
        self.assertGreater(taken, 500)

    def test_covers_of_the_finder(self):
        for seed in range(150):
            source = random.Random(seed)
            net = any_mixed_net(source)
            for k in (2, 3, 4):
                self.check(net, cover_of(net, k), rows_of_bits(source, net, 10))

    def test_nets_of_graphs(self):
        for seed in range(10):
            net = net_of(small_graph(seed), SHAPES[seed])
            for k in (2, 3, 4):
                self.check(net, cover_of(net, k), rows_of_bits(random.Random(seed), net, 6))


class RunTest(unittest.TestCase):
    TABLES = (
        "tables", ("a",), (("p", 1, 3), ("q", 0, 1)), (((0, 1), (0, 1, 1, 0)), ((2,), (1, 0))),
        (("y", 3), ("z", 2), ("x", 4), ("w", 0)),
    )

    def test_beats(self):
        run = TablesRun(self.TABLES)
        self.assertEqual(run.state, (1, 0))
        self.assertEqual(run.beat((1,)), (0, 0, 1, 1))
        self.assertEqual(run.state, (0, 1))
        self.assertEqual(run.beat((1,)), (1, 1, 0, 1))
        self.assertEqual(run.state, (1, 0))
        self.assertEqual(list(run.beats(((0,), (0,)))), [(1, 0, 1, 0), (1, 1, 0, 0)])

    def test_beats_are_done_when_they_are_asked_for(self):
        run = TablesRun(self.TABLES)
        beats = run.beats([(1,), (1,), (1,)])
        self.assertEqual(run.state, (1, 0))
        next(beats)
        self.assertEqual(run.state, (0, 1))
        run.state = (1, 1)
        self.assertEqual(next(beats), (0, 1, 0, 1))
        self.assertEqual(run.state, (0, 1))

    def test_lists_and_tuples_of_rows(self):
        rows = [(1,), (0,), (1,)]
        told = list(TablesRun(self.TABLES).beats(rows))
        self.assertEqual(list(TablesRun(self.TABLES).beats(tuple(rows))), told)
        self.assertEqual(rows, [(1,), (0,), (1,)])
        self.assertEqual(list(TablesRun(self.TABLES).beats(())), [])

    def test_states(self):
        run = TablesRun(self.TABLES)
        for state in itertools.product((0, 1), repeat=2):
            run.state = state
            self.assertEqual(run.state, state)
            told = run.beat((1,))
            behind = run.state
            run.beat((0,))
            self.assertIsNone(run.resume(state))
            self.assertEqual(run.state, state)
            self.assertEqual((run.beat((1,)), run.state), (told, behind))
            self.assertIs(is_plain((told, behind)), True)

    def test_two_runs_do_not_meet(self):
        first, second = TablesRun(self.TABLES), TablesRun(self.TABLES)
        first.beat((1,))
        self.assertEqual(second.state, (1, 0))
        first.state = (1, 1)
        self.assertEqual(second.beat((1,)), (0, 0, 1, 1))


if __name__ == "__main__":
    unittest.main()
