"""Designs, their nets behind passes in any order, and the tables of these show the same."""
import random
import unittest

from beatfabric.balance import balanced
from beatfabric.bonding import bonds_of
from beatfabric.bonds import bonded, judge_bonds
from beatfabric.check import check
from beatfabric.codes import code_paper, recoded
from beatfabric.covering import cover_of
from beatfabric.covers import judge_cover
from beatfabric.flatten import flatten
from beatfabric.graphof import graph_of
from beatfabric.lags import judge_lags
from beatfabric.leastclock import judge_bar, least_clock
from beatfabric.merges import judge_merges, merged
from beatfabric.netof import net_of
from beatfabric.nets import is_net
from beatfabric.reading import read_design
from beatfabric.retiming import retimed
from beatfabric.rewrites import rewrites
from beatfabric.rewriting import judge_rewriting, rewritten
from beatfabric.sweeping import merges_of
from beatfabric.tables import TablesRun, tables_of
from beatfabric.tidy import bared, tidied
from beatfabric.traces import held_of
from beatfabric.treeruns import DesignRun
from beatfabric.words import split_ports
from tests.designs import Maker, rows_for
from tests.netmaking import shown
from tests.test_netof import SHAPES
from tests.test_same import LIGHTS

PIPE = """
module stage(w) { input x : w; input y : w; output z : w; reg r : w = 1; set r = x * y; set z = r + x; }
module top(w) {
  input a : w; input b : w; output y : w; output o : 1;
  use s@0 = stage(w) { x = a; y = b; }
  use s@1 = stage(w) { x = s@0.z; y = b; }
  use s@2 = stage(w) { x = s@1.z; y = s@0.z; }
  set y = s@2.z; set o = odd(s@2.z) & any(s@1.z); claim c = s@2.z <= s@2.z;
}
"""
TWINS = """
module count(w) { input on : 1; output n : w; reg r : w = 0 when on; set r = r + word(1, w); set n = r; }
module top(w) {
  input on : 1; output same : 1; output n : w;
  use c@0 = count(w) { on = on; }
  use c@1 = count(w) { on = on; }
  set same = c@0.n == c@1.n; set n = c@1.n;
}
"""


class TogetherTest(unittest.TestCase):
    def passed(self, net, word):
        """The net behind a pass, whose paper must be taken."""
        if word == "bare":
            return bared(net)
        if word == "sweep":
            paper = merges_of(net)
            self.assertIs(judge_merges(net, paper), True)
            return merged(net, paper)
        if word == "bond":
            paper = bonds_of(net)
            self.assertIs(judge_bonds(net, paper), True)
            return bonded(net, paper)
        if word == "rewrite":
            for paper in rewrites(net):
                self.assertIs(judge_rewriting(net, paper), True)
                net = rewritten(net, paper)
            return net
        if word == "balance":
            return balanced(net)
        if held_of(net):
            return net
        clock, lags, bar = least_clock(net)
        self.assertIs(judge_lags(net, lags) and judge_bar(net, clock, bar), True)
        return retimed(net, lags)

    def same(self, design, numbers, passes, shapes, style, k, many):
        flat = flatten(design, numbers)
        check(flat)
        rows = rows_for(flat[1], many, 7)
        ports = flat[2] + tuple((name, 1) for name, _ in flat[7])
        told = [split_ports(ports, words) for words in DesignRun(design, numbers).beats(rows)]
        bits = [split_ports(flat[1], row) for row in rows]
        graph = graph_of(flat)
        if len(graph[2]) > 400:
            return None
        graph = recoded(graph, code_paper(graph, style))
        if len(graph[2]) > 400:
            return None
        net = net_of(graph, shapes)
        names = [net[1], [name for name, _ in net[4]], [name for name, _ in net[5]]]
        self.assertEqual(shown(net, bits), told)
        for word in passes:
            net = self.passed(net, word)
            self.assertIs(is_net(net), True)
            self.assertEqual(tidied(net), net)
            self.assertEqual([net[1], [name for name, _ in net[4]], [name for name, _ in net[5]]], names)
            self.assertEqual(shown(net, bits), told, word)
        cover = cover_of(net, k)
        self.assertIs(judge_cover(net, k, cover), True)
        self.assertEqual(list(TablesRun(tables_of(net, cover)).beats(bits)), told)
        return net

    def test_random_designs(self):
        words = ("bare", "sweep", "bond", "rewrite", "balance", "retime")
        for seed in range(60):
            source = random.Random(seed)
            maker = Maker(seed, 2)
            passes = [source.choice(words) for _ in range(source.randrange(7))]
            style = source.choice(("dense", "gray", "hot", "plain"))
            self.same(maker.design(), maker.numbers(), passes, source.choice(SHAPES), style, source.choice((2, 3, 4)), 12)

    def test_lights(self):
        for shapes in SHAPES[::7]:
            net = self.same(read_design(LIGHTS), (2,), ("sweep", "rewrite", "balance", "bare"), shapes, "gray", 4, 100)
            self.assertIsNotNone(net)

    def test_a_pipe(self):
        """Registers go where they are needed: the clock becomes less, and all shows the same."""
        for width in (1, 2, 4):
            for shapes in (SHAPES[0], SHAPES[-1]):
                for passes in (("retime",), ("sweep", "balance", "rewrite", "retime", "retime", "sweep")):
                    net = self.same(read_design(PIPE), (width,), passes, shapes, "plain", 3, 60)
                    self.assertEqual(held_of(net), ())

    def test_twins(self):
        """Two counters that are always alike become one."""
        for width in (1, 2, 3, 4):
            net = self.same(read_design(TWINS), (width,), ("bond", "sweep"), SHAPES[5], "plain", 4, 60)
            self.assertEqual(len(net[2]), width)
            self.assertEqual(net[4][0], ("same:0", 1))


if __name__ == "__main__":
    unittest.main()
