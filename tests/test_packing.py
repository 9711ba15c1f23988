"""Packings: the judge, the finder, and packed cells."""
import itertools
import random
import unittest

from beatfabric.cellruns import CellsRun
from beatfabric.packing import cells_of, judge_packing, packing_of
from beatfabric.tables import TablesRun
from tests.cellmaking import any_tables, random_packing, slow_judge_packing
from tests.mutants import changed, relisted
from tests.netmaking import is_plain

# Two inputs 0 and 1, the registers 2 to 5, the tables 6 and 7.
TABLES = (
    "tables", ("a", "b"), (("p", 1, 6), ("q", 0, 6), ("r", 1, 0), ("s", 0, 2)),
    (((0, 2), (0, 1, 1, 0)), ((6, 3, 1), (0, 0, 0, 0, 0, 0, 0, 1))), (("y", 7), ("z", 5), ("x", 1), ("w", 6)),
)
PACKING = ((0, 0), (1, None), (None, 1), (None, 2), (None, 3))


def with_none(source, paper):
    """The packing with a number in place of None or None in place of a number."""
    if not paper:
        return paper
    at = source.randrange(len(paper))
    pair = list(paper[at])
    side = source.randrange(2)
    pair[side] = source.choice((-1, 0, 1, 2)) if pair[side] is None else None
    return paper[:at] + (tuple(pair),) + paper[at + 1:]


class PackingTest(unittest.TestCase):
    def test_judge(self):
        def good(paper):
            self.assertIs(judge_packing(TABLES, paper), True, paper)

        def bad(paper):
            self.assertIs(judge_packing(TABLES, paper), False, paper)

        good(PACKING)
        good(PACKING[::-1])
        good(((0, 1), (1, None), (None, 0), (None, 2), (None, 3)))
        good(((0, None), (1, None), (None, 0), (None, 1), (None, 2), (None, 3)))
        bad(())
        bad(PACKING + ((None, None),))
        bad(((None, None),) + PACKING)
        bad(((1, 0), (0, None)) + PACKING[2:])
        bad(((0, 2), (1, None), (None, 0), (None, 1), (None, 3)))
        bad(((0, 3), (1, None), (None, 0), (None, 1), (None, 2)))
        for at in range(5):
            bad(PACKING[:at] + PACKING[at + 1:])
            bad(PACKING + PACKING[at:at + 1])
            for number in (-1000000, -2, -1, 4, 5, 6, 7, 1000000):
                for pair in ((number, PACKING[at][1]), (PACKING[at][0], number)):
                    bad(PACKING[:at] + (pair,) + PACKING[at + 1:])

    def test_a_negative_number_is_none_of_a_thing(self):
        tables = ("tables", ("a",), (("p", 1, 3), ("q", 1, 3)), (((0,), (0, 1)),), ())
        self.assertIs(judge_packing(tables, ((0, 1), (None, 0))), True)
        self.assertIs(judge_packing(tables, ((0, -1), (None, 0))), False)
        self.assertIs(judge_packing(tables, ((-1, 1), (None, 0))), False)

    def test_nothing_to_pack(self):
        tables = ("tables", ("a",), (), (), (("y", 0),))
        self.assertEqual(packing_of(tables), ())
        self.assertIs(judge_packing(tables, ()), True)
        self.assertIs(judge_packing(tables, ((None, None),)), False)
        self.assertIs(judge_packing(tables, ((0, None),)), False)
        self.assertIs(judge_packing(tables, ((None, 0),)), False)
        self.assertEqual(cells_of(tables, ()), ("cells", ("a",), (), (("y", ("in", 0)),)))

    def test_wrong_copies(self):
        counted = {True: 0, False: 0}
        for seed in range(1500):
            source = random.Random(seed)
            tables = any_tables(source)
            paper = random_packing(source, tables)
            self.assertIs(judge_packing(tables, paper), True)
            for kind in range(4):
                other = (changed(source, paper), relisted(source, paper), with_none(source, paper),
                         with_none(source, with_none(source, paper)))[kind]
                told = judge_packing(tables, other)
                self.assertIs(told, slow_judge_packing(tables, other), (tables, other))
                counted[told] += 1
        self.assertGreater(min(counted.values()), 300)

    def test_finder(self):
        for seed in range(400):
            source = random.Random(seed)
            tables = any_tables(source)
            paper = packing_of(tables)
            self.assertIs(judge_packing(tables, paper), True)
            self.assertEqual(packing_of(tables), paper)
            self.assertIs(is_plain(paper), True)
            _, inputs, regs, rows, _ = tables
            nexts = {follow for _, _, follow in regs if follow >= len(inputs) + len(regs)}
            self.assertEqual(len(paper), len(rows) + len(regs) - len(nexts))

    def test_fewest_cells(self):
        """No pairing of tables and registers has fewer cells."""
        for seed in range(60):
            source = random.Random(seed)
            tables = any_tables(source)
            _, _, regs, rows, _ = tables
            best = len(packing_of(tables))
            choices = [[None] + list(range(len(regs))) for _ in rows]
            for mates in itertools.islice(itertools.product(*choices), 3000):
                used = [reg for reg in mates if reg is not None]
                paper = tuple(enumerate(mates)) + tuple((None, reg) for reg in range(len(regs)) if reg not in used)
                if len(set(used)) == len(used) and judge_packing(tables, paper):
                    self.assertGreaterEqual(len(paper), best)


class CellsTest(unittest.TestCase):
    def test_by_hand(self):
        self.assertEqual(cells_of(TABLES, PACKING), (
            "cells", ("a", "b"), (
                ((("in", 0), ("reg", 0)), (0, 1, 1, 0), 1),
                ((("out", 0), ("reg", 2), ("in", 1)), (0, 0, 0, 0, 0, 0, 0, 1), None),
                ((("out", 0),), (0, 1), 0), ((("in", 0),), (0, 1), 1), ((("reg", 0),), (0, 1), 0),
            ), (("y", ("out", 1)), ("z", ("reg", 4)), ("x", ("in", 1)), ("w", ("out", 0))),
        ))

    def test_other_orders(self):
        """The number of a cell is the place of its pair; a cell can stand ahead of its leaves."""
        paper = ((None, 3), (1, None), (None, 0), (0, 1), (None, 2))
        self.assertEqual(cells_of(TABLES, paper), (
            "cells", ("a", "b"), (
                ((("reg", 2),), (0, 1), 0),
                ((("out", 3), ("reg", 3), ("in", 1)), (0, 0, 0, 0, 0, 0, 0, 1), None),
                ((("out", 3),), (0, 1), 1), ((("in", 0), ("reg", 2)), (0, 1, 1, 0), 0), ((("in", 0),), (0, 1), 1),
            ), (("y", ("out", 1)), ("z", ("reg", 0)), ("x", ("in", 1)), ("w", ("out", 3))),
        ))

    def test_tables_without_leaves(self):
        tables = ("tables", (), (("p", 0, 2), ("q", 1, 1)), (((), (1,)),), (("y", 2), ("z", 0)))
        self.assertEqual(packing_of(tables), ((0, 0), (None, 1)))
        self.assertEqual(cells_of(tables, packing_of(tables)), (
            "cells", (), (((), (1,), 0), ((("reg", 1),), (0, 1), 1)), (("y", ("out", 0)), ("z", ("reg", 0))),
        ))


class RunsTest(unittest.TestCase):
    def test_state(self):
        cells = cells_of(TABLES, PACKING)
        run = CellsRun(cells)
        self.assertEqual(run.state, (1, 0, 1, 0))
        self.assertEqual(run.beat((1, 1)), (0, 0, 1, 0))
        self.assertEqual(run.state, (0, 0, 1, 1))
        run.state = (1, 1, 0, 1)
        self.assertEqual(run.state, (1, 1, 0, 1))
        self.assertEqual(run.beat((0, 1)), (1, 1, 1, 1))
        self.assertIsNone(run.resume((0, 0, 0, 0)))
        self.assertEqual(run.state, (0, 0, 0, 0))
        other = CellsRun(cells)
        self.assertEqual(other.state, (1, 0, 1, 0))

    def test_beats_are_done_when_asked_for(self):
        run = CellsRun(cells_of(TABLES, PACKING))
        beats = run.beats([(1, 1), (0, 1)])
        self.assertEqual(run.state, (1, 0, 1, 0))
        self.assertEqual(next(beats), (0, 0, 1, 0))
        self.assertEqual(run.state, (0, 0, 1, 1))
        self.assertEqual(len(list(beats)), 1)
        self.assertEqual(list(run.beats(())), [])

    def test_the_same_as_tables(self):
        """At every beat, for any packing."""
        for seed in range(300):
            source = random.Random(seed)
            tables = any_tables(source)
            for paper in (packing_of(tables), random_packing(source, tables)):
                run, other = CellsRun(cells_of(tables, paper)), TablesRun(tables)
                owners = [reg for _, reg in paper if reg is not None]
                for _ in range(12):
                    row = tuple(source.randrange(2) for _ in tables[1])
                    self.assertEqual(run.beat(row), other.beat(row))
                    self.assertEqual(run.state, tuple(other.state[reg] for reg in owners))

    def test_all_states_and_inputs(self):
        for seed in range(60):
            source = random.Random(seed)
            tables = any_tables(source)
            paper = random_packing(source, tables)
            owners = [reg for _, reg in paper if reg is not None]
            run, other = CellsRun(cells_of(tables, paper)), TablesRun(tables)
            for state in itertools.product((0, 1), repeat=len(tables[2])):
                for row in itertools.product((0, 1), repeat=len(tables[1])):
                    other.state = state
                    run.state = tuple(state[reg] for reg in owners)
                    self.assertEqual(run.beat(row), other.beat(row))
                    self.assertEqual(run.state, tuple(other.state[reg] for reg in owners))

    def test_long_chains(self):
        """A chain of thousands of tables, the last one first."""
        many = 4000
        rows = tuple((((at,), (1, 0))) for at in range(many))
        tables = ("tables", ("a",), (), rows, (("y", many),))
        paper = tuple((table, None) for table in reversed(range(many)))
        self.assertEqual(list(CellsRun(cells_of(tables, paper)).beats(((0,), (1,)))), [(0,), (1,)])


if __name__ == "__main__":
    unittest.main()
