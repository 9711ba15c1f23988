"""Other codes for registers: the judge, the recoded graph, the finder."""
import random
import unittest

from beatfabric.codes import code_paper, judge_codes, recoded
from beatfabric.flatten import flatten
from beatfabric.graphof import graph_of
from beatfabric.graphruns import GraphRun
from beatfabric.graphs import is_graph, is_lean
from beatfabric.reading import read_design
from tests.designs import Maker, rows_for
from tests.mutants import changed, relisted

STYLES = ("dense", "gray", "hot", "plain")


def graph_for(items):
    return graph_of(flatten(read_design("module m { " + items + " }")))


def walker(words, start=None, width=8):
    """A register that goes from word to word by its input, and shows where it is."""
    arms = " ".join(f"at {at} {{ set r = word({word}, {width}); }}" for at, word in enumerate(words))
    start = words[0] if start is None else start
    return graph_for((
        f"input a : 8; output y : {width}; output z : 1; output x : 1; reg r : {width} = {start};"
        f"case a {{ {arms} }} set y = r; set z = r == word({words[-1]}, {width}); set x = word({words[0]}, {width}) != r;"
    ))


def slow_stays(nodes, at, words, reg):
    if nodes[at][0] == "const":
        return nodes[at][2] in words
    if nodes[at][0] == "pick":
        return slow_stays(nodes, nodes[at][3], words, reg) and slow_stays(nodes, nodes[at][4], words, reg)
    return nodes[at][0] == "reg" and nodes[at][2] == reg


def slow_judge(graph, paper):
    """The words of the document, one by one."""
    regs = graph[3]
    if any(a[0] >= b[0] for a, b in zip(paper, paper[1:])):
        return False
    for reg, width, codes in paper:
        if not 0 <= reg < len(regs) or not 1 <= width <= 8:
            return False
        olds, news = [old for old, _ in codes], [new for _, new in codes]
        if olds != sorted(set(olds)) or len(set(news)) != len(news):
            return False
        if any(not 0 <= old < 2 ** regs[reg][1] for old in olds) or any(not 0 <= new < 2 ** width for new in news):
            return False
        if regs[reg][2] not in olds or not slow_stays(graph[2], regs[reg][3], olds, reg):
            return False
    return True


class RecodingTest(unittest.TestCase):
    def same(self, graph, paper, many=30, seed=1):
        """Recodes by a paper that must be taken, and compares; returns the recoded graph."""
        self.assertIs(judge_codes(graph, paper), True)
        other = recoded(graph, paper)
        self.assertIs(is_graph(other), True)
        self.assertIs(is_lean(other), True)
        self.assertEqual(other[1], graph[1])
        self.assertEqual([row[:3] for row in other[4]], [row[:3] for row in graph[4]])
        for at in (5, 6):
            self.assertEqual([(name, other[2][node][1]) for name, node in other[at]],
                             [(name, graph[2][node][1]) for name, node in graph[at]])
        codes = {reg: dict(pairs) for reg, _, pairs in paper}
        widths = {reg: width for reg, width, _ in paper}
        for at, reg in enumerate(graph[3]):
            self.assertEqual(other[3][at][:2], (reg[0], widths.get(at, reg[1])))
        first, second = GraphRun(graph), GraphRun(other)
        for row in rows_for(graph[1], many, seed):
            for run_state, own in zip(first.state[0], enumerate(second.state[0])):
                at, word = own
                self.assertEqual(word, codes[at][run_state] if at in codes else run_state)
            self.assertEqual(second.state[1], first.state[1])
            self.assertEqual(second.beat(row), first.beat(row))
        return other

    def test_styles_and_numbers_of_codes(self):
        for many in (2, 3, 4, 5, 8, 9, 16, 17):
            words = [at * 11 + 1 for at in range(many)]
            graph = walker(words)
            for style in STYLES:
                paper = code_paper(graph, style)
                if style == "plain" or (style == "hot" and many > 8):
                    self.assertEqual(paper, ())
                    continue
                width = many if style == "hot" else max(1, (many - 1).bit_length())
                ranks = range(many)
                news = {"dense": list(ranks), "gray": [r ^ r // 2 for r in ranks], "hot": [2 ** r for r in ranks]}
                self.assertEqual(paper, ((0, width, tuple(zip(words, news[style]))),))
                self.same(graph, paper, 60)

    def test_the_start_is_an_old(self):
        graph = walker([3, 9], start=5)
        self.assertEqual(code_paper(graph, "dense"), ((0, 2, ((3, 0), (5, 1), (9, 2))),))
        self.assertEqual(code_paper(graph, "hot"), ((0, 3, ((3, 1), (5, 2), (9, 4))),))
        self.same(graph, code_paper(graph, "gray"))
        self.same(graph, ((0, 2, ((3, 3), (5, 0), (9, 1))),))

    def test_one_old_gets_no_entry(self):
        for style in STYLES:
            self.assertEqual(code_paper(walker([4]), style), ())
            self.assertEqual(code_paper(graph_for("reg r : 2 = 1; output y : 2; set y = r;"), style), ())
        self.assertEqual(code_paper(walker([4], start=6), "dense"), ((0, 1, ((4, 0), (6, 1))),))

    def test_registers_that_are_not_looked_at(self):
        for change in ("r + word(1, 2)", "b", "~r", "s", "pick(any(b), s, r)"):
            graph = graph_for((
                f"input b : 2; reg s : 2 = 0; reg r : 2 = 0; set r = {change}; output y : 2; set y = r;"
                "if any(b) { set s = word(2, 2); }"
            ))
            self.assertEqual(code_paper(graph, "dense"), ((0, 1, ((0, 0), (2, 1))),), change)
            self.same(graph, code_paper(graph, "dense"))

    def test_several_registers(self):
        graph = graph_for((
            "input a : 3; states s { i, j, k } states t { p, q } reg r : 8 = 200 reset odd(a); output y : 8;"
            "case a { at 0 { go s to j; } at 1 { go s to k; go t to q; } at 2 { set r = word(7, 8); go s to i; }"
            "at 3 { if s is k { go t to p; } } }"
            "set y = wide(s, 8) + (r << t); claim c = s is j | t is q; claim d = ~(r == word(7, 8)) & r != word(9, 8);"
        ))
        for style in STYLES:
            paper = code_paper(graph, style)
            self.assertEqual([entry[0] for entry in paper], [] if style == "plain" else [0, 1, 2])
            self.same(graph, paper, 200)
        self.same(graph, code_paper(graph, "hot")[1:2], 50)
        self.same(graph, code_paper(graph, "gray")[::2], 50)

    def test_papers_of_others(self):
        graph = walker([1, 2, 4, 9], width=4)
        olds = [1, 2, 4, 9]
        for seed in range(40):
            source = random.Random(seed)
            more = sorted(olds + source.sample([0, 3, 5, 6, 15], source.randrange(4)))
            width = source.randrange(max(1, (len(more) - 1).bit_length()), 9)
            news = source.sample(range(1 << width), len(more))
            self.same(graph, ((0, width, tuple(zip(more, news))),), 20, seed)

    def test_graphs_that_are_not_lean(self):
        graph = walker([1, 2, 4], width=3)
        nodes = graph[2] + (("const", 3, 5), graph[2][0], ("not", 3, len(graph[2])))
        self.same(graph[:2] + (nodes,) + graph[3:], code_paper(graph, "hot"))
        self.same(graph[:2] + (nodes,) + graph[3:], ())

    def test_the_empty_paper(self):
        graph = walker([1, 2])
        self.assertEqual(self.same(graph, ()), graph)

    def test_the_same_words(self):
        graph = walker([0, 1, 2, 3], width=2)
        self.assertEqual(self.same(graph, code_paper(graph, "dense")), graph)

    def test_memories_and_claims(self):
        graph = graph_for((
            "input a : 2; mem q : 4 [ 3 ]; states s { i, j, k } output y : 4; set y = q[s];"
            "case a { at 0 { go s to i; } at 1 { go s to j; } at 2 { go s to k; } } write q[s] = wide(s, 4) + word(5, 4);"
            "claim c = s < word(2, 2);"
        ))
        for style in STYLES:
            self.same(graph, code_paper(graph, style), 60)

    def test_random_designs(self):
        for seed in range(60):
            maker = Maker(seed)
            graph = graph_of(flatten(maker.design(), maker.numbers()))
            for style in STYLES:
                self.same(graph, code_paper(graph, style), 5, seed)


class JudgeTest(unittest.TestCase):
    GRAPH = walker([1, 2, 4], width=3)

    def bad(self, paper):
        self.assertIs(judge_codes(self.GRAPH, paper), False)

    def good(self, paper):
        self.assertIs(judge_codes(self.GRAPH, paper), True)

    def test_right(self):
        self.good(())
        self.good(((0, 2, ((1, 0), (2, 1), (4, 2))),))
        self.good(((0, 8, ((0, 9), (1, 255), (2, 1), (4, 2))),))

    def test_registers(self):
        codes = ((1, 0), (2, 1), (4, 2))
        for reg in (1, -1, -2, 1000000):
            self.bad(((reg, 2, codes),))
        self.bad(((0, 2, codes), (0, 2, codes)))

    def test_widths(self):
        codes = ((1, 0), (2, 1), (4, 2))
        for width in (0, -1, 9, 1, 1000000, -1000000):
            self.bad(((0, width, codes),))

    def test_olds(self):
        self.bad(((0, 2, ()),))
        self.bad(((0, 2, ((1, 0), (4, 2), (2, 1))),))
        self.bad(((0, 2, ((1, 0), (2, 1), (2, 3), (4, 2))),))
        self.bad(((0, 2, ((-1, 3), (1, 0), (2, 1), (4, 2))),))
        self.bad(((0, 2, ((1, 0), (2, 1), (4, 2), (8, 3))),))
        self.bad(((0, 2, ((2, 1), (4, 2))),))
        self.bad(((0, 2, ((1, 0), (2, 1))),))
        self.bad(((0, 2, ((1, 0), (4, 2))),))

    def test_news(self):
        self.bad(((0, 2, ((1, 0), (2, 1), (4, 1))),))
        self.bad(((0, 2, ((1, 0), (2, 1), (4, 4))),))
        self.bad(((0, 2, ((1, 0), (2, 1), (4, -1))),))
        self.bad(((0, 2, ((1, 0), (2, 1), (4, 1000000))),))

    def test_order_of_entries(self):
        graph = graph_for((
            "input a : 1; states s { i, j } states t { p, q } if a { go s to j; go t to q; } output y : 1; set y = s ^ t;"
        ))
        codes = ((0, 1), (1, 0))
        self.assertIs(judge_codes(graph, ((0, 1, codes), (1, 1, codes))), True)
        self.assertIs(judge_codes(graph, ((1, 1, codes), (0, 1, codes))), False)

    def test_the_register_itself(self):
        graph = ("graph", (("a", 1),), (("input", 1, 0), ("reg", 2, 0), ("reg", 2, 1), ("pick", 2, 0, 1, 2)),
                 (("r", 2, 0, 3), ("s", 2, 0, 2)), (), (), ())
        codes = ((0, 0), (1, 1), (2, 2), (3, 3))
        self.assertIs(judge_codes(graph, ((0, 2, codes),)), False)
        self.assertIs(judge_codes(graph, ((1, 2, codes),)), True)
        self.assertIs(judge_codes(graph, ((1, 1, ((0, 1),)),)), True)

    def test_long_picks(self):
        nodes = [("input", 1, 0), ("const", 1, 0)]
        for at in range(1500):
            nodes.append(("pick", 1, 0, 1, at + 1))
        graph = ("graph", (("a", 1),), tuple(nodes), (("r", 1, 0, 1501),), (), (), ())
        self.assertIs(judge_codes(graph, ((0, 3, ((0, 7),)),)), True)
        self.assertIs(is_graph(recoded(graph, ((0, 3, ((0, 7),)),))), True)
        self.assertEqual(code_paper(graph, "dense"), ())

    def test_wrong_copies(self):
        counted = {True: 0, False: 0}
        for seed in range(30):
            maker = Maker(seed)
            graph = graph_of(flatten(maker.design(), maker.numbers()))
            source = random.Random(seed)
            paper = code_paper(graph, source.choice(STYLES[:3]))
            for _ in range(30):
                other = changed(source, paper)
                if source.randrange(3) == 0:
                    other = relisted(source, other)
                if other and source.randrange(3) == 0:
                    reg, width, codes = other[0]
                    other = ((reg, width, relisted(source, codes)),) + other[1:]
                told = judge_codes(graph, other)
                self.assertIs(told, slow_judge(graph, other), other)
                counted[told] += 1
        self.assertGreater(min(counted.values()), 50)


if __name__ == "__main__":
    unittest.main()
