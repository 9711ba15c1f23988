"""The design by its tree, its flat design, its graph and its recoded graphs show the same."""
import unittest

from beatfabric.beats import FlatRun
from beatfabric.check import check
from beatfabric.codes import code_paper, judge_codes, recoded
from beatfabric.flatten import flatten
from beatfabric.graphof import graph_of
from beatfabric.graphruns import GraphRun
from beatfabric.graphs import is_graph, is_lean
from beatfabric.reading import read_design
from beatfabric.treeruns import DesignRun
from beatfabric.writing import write_design
from tests.designs import Maker, rows_for

LIGHTS = """
module timer(w, most) {
  input on : 1; output done : 1; reg n : w = 0 reset ~on;
  if on { set n = n + word(1, w); }
  set done = n == word(most, w);
}
module fifo(w, n) {
  link in p : w; link out q : w; mem rows : w [n]; reg head : 3 = 0; reg tail : 3 = 0; reg many : 3 = 0;
  take p when many < word(n, 3);
  give q = rows[head] when any(many);
  if p.moves { write rows[tail] = p.data; set tail = pick(tail == word(n - 1, 3), word(0, 3), tail + word(1, 3)); }
  if q.moves { set head = pick(head == word(n - 1, 3), word(0, 3), head + word(1, 3)); }
  case join(p.moves, q.moves) { at 1 { set many = many - word(1, 3); } at 2 { set many = many + word(1, 3); } }
  claim room = many <= word(n, 3);
}
module top(w) {
  input car : 1; output red : 1; output code : 2; link out seen : w; link own s : w;
  states light { run, slow, stop, wait2 }
  use t@0 = timer(3, 5) { on = light is slow | light is wait2; }
  use t@1 = timer(2, 3) { on = light is stop; }
  use f = fifo(w, 3) { tie p = s; tie q = seen; }
  give s = wide(join(light, car), w) when car;
  case light {
    at 0 { if car { go light to slow; } }
    at 1 { if t@0.done { go light to stop; } }
    at 2 { if t@1.done { go light to wait2; } }
    at 3 { if t@0.done { if ~car { go light to run; } } }
  }
  set red = light is stop;
  set code = light;
  claim one = ~(light is run & light is stop);
}
"""


class SameTest(unittest.TestCase):
    def same(self, design, numbers, many, seed):
        self.assertEqual(read_design(write_design(design)), design)
        flat = flatten(design, numbers)
        self.assertIsNone(check(flat))
        rows = rows_for(flat[1], many, seed)
        told = list(DesignRun(design, numbers).beats(rows))
        self.assertEqual(list(FlatRun(flat).beats(rows)), told)
        graph = graph_of(flat)
        self.assertEqual(list(GraphRun(graph).beats(rows)), told)
        for style in ("plain", "dense", "gray", "hot"):
            paper = code_paper(graph, style)
            self.assertIs(judge_codes(graph, paper), True)
            other = recoded(graph, paper)
            self.assertIs(is_graph(other) and is_lean(other), True)
            self.assertEqual(list(GraphRun(other).beats(rows)), told)

    def test_a_design(self):
        for width in (1, 3, 8):
            self.same(read_design(LIGHTS), (width,), 150, width)

    def test_random_designs(self):
        for seed in range(200, 260):
            maker = Maker(seed)
            self.same(maker.design(), maker.numbers(), 10, seed)


if __name__ == "__main__":
    unittest.main()
