"""Texts and trees as deep as they may be, within a few hundred calls."""
import inspect
import sys
import unittest

from beatfabric.beats import FlatRun
from beatfabric.check import check
from beatfabric.errors import BadText
from beatfabric.flatten import flatten
from beatfabric.graphof import graph_of
from beatfabric.graphruns import GraphRun
from beatfabric.reading import read_design
from beatfabric.treeruns import DesignRun
from beatfabric.writing import write_design
from tests.designs import rows_for

PORTS = "input a : 8; output y : 8; "


def depth_of(tree):
    return 1 + max([depth_of(part) for part in tree], default=0) if isinstance(tree, tuple) else 0


class DeepTest(unittest.TestCase):
    def setUp(self):
        limit = sys.getrecursionlimit()
        self.addCleanup(sys.setrecursionlimit, limit)
        sys.setrecursionlimit(len(inspect.stack()) + 400)

    def same(self, text, least):
        """Does all that can be done with a text; its tree has at least so many tuples in each other."""
        design = read_design(text)
        self.assertGreaterEqual(depth_of(design), least)
        self.assertEqual(read_design(write_design(design)), design)
        flat = flatten(design)
        self.assertIsNone(check(flat))
        rows = rows_for(flat[1], 3, least)
        shown = list(DesignRun(design).beats(rows))
        self.assertEqual(list(FlatRun(flat).beats(rows)), shown)
        self.assertEqual(list(GraphRun(graph_of(flat)).beats(rows)), shown)

    def test_sums(self):
        self.same("module m { " + PORTS + "set y = " + "a + " * 94 + "a; }", 100)

    def test_signs_and_brackets(self):
        self.same("module m { " + PORTS + "set y = " + "~-~(a ^ " * 23 + "a" + ")" * 23 + "; }", 90)

    def test_conditions(self):
        inner = "set y = a;"
        for _ in range(28):
            inner = "if any(a) { " + inner + " } else { set y = -a; }"
        self.same("module m { " + PORTS + inner + " }", 60)

    def test_cases_and_sums(self):
        inner = "set y = a + " + "a + " * 24 + "a;"
        for _ in range(12):
            inner = f"case a {{ at 1 {{ if any(a) {{ {inner} }} else {{ set y = -a; }} }} else {{ set y = ~a; }} }}"
        self.same("module m { " + PORTS + inner + " }", 90)

    def test_memories(self):
        inner = "write q[a] = " + "q[" * 20 + "a" + "]" * 20 + ";"
        for _ in range(5):
            inner = "case a { else { " + inner + " } }"
        self.same("module m { " + PORTS + "mem q : 8 [ 8 ]; set y = q[~a]; " + inner + " }", 30)

    def test_copies_and_uses(self):
        text = "module m0 { " + PORTS + "set y = ~a; } "
        for at in range(1, 8):
            use = f"use u = m{at - 1} {{ a = -a; }} set y = ~u.y;"
            text += f"module m{at} {{ " + PORTS + "for k in 0 .. 1 { " * 12 + use + " }" * 12 + " } "
        self.same(text, 30)

    def test_bad_texts(self):
        for start, many in (("a | a ^ a & a < a << a + a * (", 27), ("bits (", 27), ("a [", 27), ("~-~- (", 27)):
            tokens = f"module m {{ set x = {(start + ' ') * many}"
            with self.assertRaises(BadText):
                read_design(tokens)
        for start, many in (("if a {", 29), ("case a { at 0 {", 14), ("for k in 0 .. 1 {", 29)):
            with self.assertRaises(BadText):
                read_design("module m { " + (start + " ") * many)


class SameAgainTest(unittest.TestCase):
    def test_equal_arguments_give_equal_results(self):
        text = (
            "module p(n) { input a : n; output y : n; reg r : n = 1 when odd(a); set r = a; set y = r; claim c = any(a); } "
            "module m { input x : 3; output z : 3; for k in 0 .. 2 { use u@k = p(k + 2) { a = wide(x, k + 2); } }"
            "set z = u@1.y; }"
        )
        design = read_design(text)
        kept = repr(design)
        flat = flatten(design)
        for _ in range(2):
            self.assertEqual(read_design(text), design)
            self.assertEqual(flatten(design, ()), flat)
            self.assertEqual(write_design(design), write_design(read_design(text)))
            self.assertEqual(graph_of(flat), graph_of(flatten(design)))
            list(DesignRun(design).beats([(5,), (3,)]))
            list(FlatRun(flat).beats([(5,), (3,)]))
        self.assertEqual(repr(design), kept)

    def test_behind_an_error(self):
        design = read_design("module m(a) { wire x : a; }")
        for _ in range(2):
            with self.assertRaises(Exception):
                flatten(design, (9,))
            self.assertEqual(flatten(design, (8,))[3], (("x", 8),))


if __name__ == "__main__":
    unittest.main()
