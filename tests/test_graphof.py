"""The graphs of flat designs."""
import unittest

from beatfabric.beats import FlatRun
from beatfabric.flatten import flatten
from beatfabric.graphof import graph_of
from beatfabric.graphruns import GraphRun
from beatfabric.graphs import is_graph, is_lean
from beatfabric.reading import read_design
from tests.designs import Maker, rows_for


class GraphOfTest(unittest.TestCase):
    def made(self, flat, many=20, seed=1):
        """The graph of a flat design, which must be as the document tells."""
        graph = graph_of(flat)
        self.assertIs(is_graph(graph), True)
        self.assertIs(is_lean(graph), True)
        _, inputs, outputs, _, regs, mems, _, claims = flat
        self.assertEqual(graph[1], inputs)
        self.assertEqual([row[:3] for row in graph[3]], [row[:3] for row in regs])
        self.assertEqual([row[:3] for row in graph[4]], list(mems))
        self.assertEqual([(name, graph[2][node][1]) for name, node in graph[5]], list(outputs))
        self.assertEqual([name for name, _ in graph[6]], [name for name, _ in claims])
        run, other = GraphRun(graph), FlatRun(flat)
        for row in rows_for(inputs, many, seed):
            self.assertEqual(run.beat(row), other.beat(row))
            self.assertEqual(run.state, other.state)
        return graph

    def of(self, items, many=40):
        return self.made(flatten(read_design("module m { " + items + " }")), many)

    def test_empty(self):
        self.assertEqual(self.of(""), ("graph", (), (), (), (), (), ()))
        self.assertEqual(self.of("input a : 3;")[2], ())

    def test_one_expr(self):
        self.assertEqual(self.of("input a : 1; output y : 1; set y = ~a;"), (
            "graph", (("a", 1),), (("input", 1, 0), ("not", 1, 0)), (), (), (("y", 1),), (),
        ))

    def test_a_node_that_is_used_twice(self):
        graph = self.of("input a : 4; output y : 4; output z : 4; set y = a + a; set z = (a + a) * (a + a);")
        self.assertEqual(graph[2], (("input", 4, 0), ("add", 4, 0, 0), ("mul", 4, 1, 1)))

    def test_all_operations(self):
        exprs = (
            "~a", "-a", "a + b", "a - b", "a * b", "a & b", "a | b", "a ^ b", "a << c", "a >> c", "wide(a < b, 4)",
            "wide(a <= b, 4)", "wide(a == b, 4)", "wide(a != b, 4)", "pick(any(c), a, b)", "wide(bits(a, 2, 1), 4)",
            "join(bits(a, 0, 0), c)", "sign(c, 4)", "wide(any(a), 4)", "wide(all(a), 4)", "wide(odd(a), 4)",
            "wide(a, 4)", "q[c]", "word(9, 4)",
        )
        for expr in exprs:
            self.of(f"input a : 4; input b : 4; input c : 3; mem q : 4 [ 5 ]; output y : 4; set y = {expr};"
                    "write q[c] = a;")

    def test_statements(self):
        self.of((
            "input a : 2; input b : 1; output y : 4; reg r : 4 = 3;"
            "case a { at 0, 3 { set y = r; if b { set y = word(2, 4); } } at 1 { if b { set y = word(9, 4); set r = y; }"
            "set y = word(3, 4); } else { if b { set r = word(1, 4); } else { set r = word(2, 4); } set y = ~r; } }"
        ))
        self.of((
            "input a : 2; output y : 2; if any(a) { if odd(a) { } else { set y = a; } set y = ~a; if all(a) { set y = -a; } }"
            "else { case a { at 0 { set y = a; } at 1 { } at 2 { set y = -a; } at 3 { } } set y = a + word(1, 2); }"
        ))
        self.of("input a : 1; output y : 2; case a { at 1 { set y = word(2, 2); } at 0 { set y = word(1, 2); } }")
        self.of("input a : 1; output y : 2; case a { at 1, 0 { set y = word(2, 2); } else { set y = word(1, 2); } }")
        self.of("input a : 3; output y : 3; case a { else { set y = ~a; } }")
        self.of("input a : 3; output y : 3; reg r : 3 = 0; set y = r; case a { at 7 { set r = a; } }")

    def test_when_and_reset(self):
        for guards in ("", "when a", "reset b", "when a reset b", "when word(0, 1)", "reset word(1, 1)"):
            for change in ("", "set r = r + word(1, 4);", "if c { set r = r + word(1, 4); }"):
                self.of(f"input a : 1; input b : 1; input c : 1; reg r : 4 = 9 {guards}; output y : 4; set y = r; {change}")

    def test_writes(self):
        self.of((
            "input a : 3; input d : 4; input e : 1; mem q : 4 [ 3 ]; output y : 4; set y = q[a];"
            "case a { at 0, 1 { write q[a] = d; if e { write q[a] = ~d; } else { write q[a + word(1, 3)] = q[a]; } }"
            "at 2 { if e { } else { write q[word(0, 3)] = d; } } else { write q[d] = d; } }"
        ), 200)
        self.of("input a : 1; mem q : 1 [ 1 ]; output y : 1; set y = q[a]; write q[a] = ~q[a];")
        self.of((
            "input a : 1; mem q : 4 [ 2 ]; output y : 4; set y = q[a];"
            "if a { write q[~a] = word(7, 4); write q[a] = q[a] + word(4, 4); write q[a] = q[a] + word(5, 4); }"
        ))
        self.of("input a : 1; mem q : 1 [ 1 ]; case a { at 0, 1 { write q[a] = a; } else { write q[a] = ~a; } }")
        self.of("input a : 1; mem q : 1 [ 1 ]; case a { else { write q[a] = a; } }")

    def test_registers_that_nothing_reads(self):
        graph = self.of("input a : 2; reg r : 2 = 1; set r = a; reg s : 3 = 2;")
        self.assertEqual(graph[3], (("r", 2, 1, 0), ("s", 3, 2, 1)))

    def test_state_machines_stay_picks(self):
        graph = self.of((
            "input a : 1; states s { i, j, k } if a { if s is i { go s to k; } else { go s to j; } }"
            "output y : 2; set y = s;"
        ))
        todo = [graph[3][0][3]]
        while todo:
            node = graph[2][todo.pop()]
            self.assertIn(node[0], ("pick", "const", "reg"))
            if node[0] == "pick":
                todo.extend(node[3:])

    def test_links(self):
        text = (
            "module b(w) { link in p : w; link out q : w; reg d : w = 0; reg f : 1 = 0; give q = d when f;"
            "take p when ~f | q.moves; if p.moves { set d = p.data; set f = word(1, 1); }"
            "else { if q.moves { set f = word(0, 1); } } }"
            "module top { link in i : 4; link out o : 4; link own m : 4;"
            "use x = b(4) { tie p = i; tie q = m; } use y = b(4) { tie q = o; tie p = m; } claim c = ~(m.moves & i.moves); }"
        )
        self.made(flatten(read_design(text)), 60)

    def test_random_designs(self):
        for seed in range(100, 140):
            maker = Maker(seed)
            self.made(flatten(maker.design(), maker.numbers()), 6, seed)

    def test_equal_results(self):
        maker = Maker(5)
        flat = flatten(maker.design(), maker.numbers())
        self.assertEqual(graph_of(flat), graph_of(flat))


if __name__ == "__main__":
    unittest.main()
