"""Runs of graphs."""
import unittest

from beatfabric.graphruns import GraphRun

GRAPH = (
    "graph",
    (("a", 2), ("on", 1)),
    (("input", 2, 0), ("input", 1, 1), ("reg", 4, 0), ("load", 4, 0, 0), ("wide", 4, 0), ("add", 4, 2, 4), ("const", 1, 1)),
    (("r", 4, 3, 5),),
    (("q", 4, 3, ((1, 0, 2), (6, 4, 5))),),
    (("y", 2), ("z", 3), ("x", 2)),
    (("c", 1),),
)


class GraphRunTest(unittest.TestCase):
    def test_beats(self):
        run = GraphRun(GRAPH)
        self.assertEqual(run.state, ((3,), ((0, 0, 0),)))
        self.assertEqual(run.beat((1, 1)), (3, 0, 3, 1))
        self.assertEqual(run.state, ((4,), ((0, 4, 0),)))
        self.assertEqual(run.beat((1, 0)), (4, 4, 4, 0))
        self.assertEqual(run.state, ((5,), ((0, 5, 0),)))

    def test_an_address_that_does_not_exist(self):
        run = GraphRun(GRAPH)
        self.assertEqual(run.beat((3, 1)), (3, 0, 3, 1))
        self.assertEqual(run.state, ((6,), ((0, 0, 0),)))

    def test_the_last_write_counts(self):
        graph = ("graph", (), (("const", 1, 1), ("const", 2, 2), ("const", 2, 3), ("const", 1, 0)), (),
                 (("q", 2, 2, ((0, 3, 1), (0, 3, 2), (3, 3, 1), (0, 0, 1))),), (), ())
        run = GraphRun(graph)
        self.assertEqual(run.beat(()), ())
        self.assertEqual(run.state, ((), ((3, 2),)))

    def test_empty(self):
        run = GraphRun(("graph", (), (), (), (), (), ()))
        self.assertEqual(list(run.beats([(), ()])), [(), ()])
        self.assertEqual(run.state, ((), ()))

    def test_graphs_that_are_not_lean(self):
        graph = ("graph", (("a", 1),), (("input", 1, 0), ("not", 1, 0), ("input", 1, 0), ("not", 1, 1)), (), (),
                 (("x", 1), ("y", 2)), (("c", 3),))
        self.assertEqual(list(GraphRun(graph).beats(((0,), (1,)))), [(1, 0, 0), (0, 1, 1)])

    def test_state(self):
        rows = ((1, 1), (2, 0), (2, 1), (0, 1))
        run = GraphRun(GRAPH)
        told = list(run.beats(rows[:2]))
        kept = run.state
        told.extend(run.beats(rows[2:]))
        other = GraphRun(GRAPH)
        other.state = kept
        self.assertEqual(other.state, kept)
        self.assertEqual(list(other.beats(rows[2:])), told[2:])
        self.assertIsNone(other.resume(kept))
        self.assertEqual(list(other.beats(list(rows[2:]))), told[2:])
        self.assertEqual(list(GraphRun(GRAPH).beats(rows)), told)

    def test_beats_are_done_when_asked_for(self):
        run = GraphRun(GRAPH)
        told = run.beats(((1, 1), (1, 1)))
        self.assertEqual(run.state, ((3,), ((0, 0, 0),)))
        next(told)
        self.assertEqual(run.state, ((4,), ((0, 4, 0),)))

    def test_two_runs_do_not_meet(self):
        first, second = GraphRun(GRAPH), GraphRun(GRAPH)
        first.beat((1, 1))
        self.assertEqual(second.state, ((3,), ((0, 0, 0),)))


if __name__ == "__main__":
    unittest.main()
