"""The judge of graphs, and what is lean."""
import random
import unittest

from beatfabric.flatten import flatten
from beatfabric.graphof import graph_of
from beatfabric.graphs import is_graph, is_lean
from tests.designs import Maker
from tests.mutants import changed, relisted

GRAPH = (
    "graph",
    (("a", 3), ("b", 1)),
    (
        ("input", 3, 0), ("input", 1, 1), ("reg", 2, 0), ("const", 3, 7), ("load", 4, 0, 0),
        ("add", 3, 0, 3), ("pick", 3, 1, 5, 0), ("bits", 2, 6, 1), ("not", 1, 1),
    ),
    (("r", 2, 3, 7),),
    (("m", 4, 8, ((1, 0, 4), (8, 2, 4))),),
    (("y", 6), ("z", 4)),
    (("c", 8),),
)


def slow_is_graph(graph):
    """The words of the document, one by one."""
    word, inputs, nodes, regs, mems, outputs, claims = graph
    if word != "graph":
        return False
    names = [row[0] for row in inputs + regs + mems]
    for row in (names, [name for name, _ in outputs], [name for name, _ in claims]):
        if len(row) != len(set(row)):
            return False
    if any(not 1 <= row[1] <= 8 for row in inputs + regs + mems):
        return False
    for at, node in enumerate(nodes):
        if not slow_is_node(graph, at, node):
            return False

    def width(number):
        return nodes[number][1] if 0 <= number < len(nodes) else None

    for _, wide, start, follow in regs:
        if not 0 <= start < 2 ** wide or width(follow) != wide:
            return False
    for _, wide, size, writes in mems:
        if not 1 <= size <= 8:
            return False
        for condition, address, put in writes:
            if width(condition) != 1 or width(address) is None or width(put) != wide:
                return False
    return all(width(node) is not None for _, node in outputs) and all(width(node) == 1 for _, node in claims)


def slow_is_node(graph, at, node):
    _, inputs, nodes, regs, mems, _, _ = graph
    op, rest = node[0], node[1:]
    if not 1 <= rest[0] <= 8:
        return False
    w = rest[0]
    rows = {"input": inputs, "reg": regs}
    if op in rows:
        return len(rest) == 2 and 0 <= rest[1] < len(rows[op]) and rows[op][rest[1]][1] == w
    if op == "const":
        return len(rest) == 2 and 0 <= rest[1] < 2 ** w
    if op == "load":
        return (len(rest) == 3 and 0 <= rest[1] < len(mems) and mems[rest[1]][1] == w and 0 <= rest[2] < at)
    many = {1: "not neg wide sign any all odd", 2: "add sub mul and or xor shl shr lt le eq ne join", 3: "pick"}
    for number, ops in many.items():
        if op in ops.split():
            if len(rest) != number + 1 or any(not 0 <= a < at for a in rest[1:]):
                return False
            own = [nodes[a][1] for a in rest[1:]]
            if op in "not neg shl shr".split():
                return w == own[0]
            if op == "wide":
                return True
            if op == "sign":
                return w >= own[0]
            if op in "any all odd".split():
                return w == 1
            if op == "join":
                return w == own[0] + own[1]
            if op == "pick":
                return own[0] == 1 and w == own[1] == own[2]
            if op in "lt le eq ne".split():
                return w == 1 and own[0] == own[1]
            return w == own[0] == own[1]
    if op == "bits":
        if len(rest) != 3 or not 0 <= rest[1] < at:
            return False
        return 0 <= rest[2] and rest[2] + w - 1 < nodes[rest[1]][1]
    return False


def with_part(at, part):
    return GRAPH[:at] + (part,) + GRAPH[at + 1:]


def with_node(*nodes):
    return with_part(2, GRAPH[2] + nodes)


class JudgeTest(unittest.TestCase):
    def good(self, graph):
        self.assertIs(is_graph(graph), True)

    def bad(self, graph):
        self.assertIs(is_graph(graph), False)

    def test_right(self):
        self.good(GRAPH)
        self.good(("graph", (), (), (), (), (), ()))

    def test_first_word(self):
        for word in ("net", "", "Graph", "flat"):
            self.bad((word,) + GRAPH[1:])

    def test_widths_of_things(self):
        for width in (0, 9, -1, 1000000, -1000000):
            self.bad(with_part(1, GRAPH[1] + (("x", width),)))
            self.bad(with_part(3, GRAPH[3] + (("x", width, 0, 0),)))
            self.bad(with_part(4, GRAPH[4] + (("x", width, 1, ()),)))
            self.bad(with_node(("const", width, 0)))
            self.bad(with_node(("wide", width, 0)))
        self.good(with_part(1, GRAPH[1] + (("x", 8), ("y", 1))))

    def test_names(self):
        for name in ("a", "b", "r", "m"):
            self.bad(with_part(1, GRAPH[1] + ((name, 1),)))
            self.bad(with_part(3, GRAPH[3] + ((name, 2, 0, 7),)))
            self.bad(with_part(4, GRAPH[4] + ((name, 2, 1, ()),)))
        self.bad(with_part(5, GRAPH[5] + (("y", 0),)))
        self.bad(with_part(6, GRAPH[6] + (("c", 1),)))
        self.good(with_part(5, GRAPH[5] + (("a", 0), ("c", 0), ("", 0))))

    def test_nodes_of_things(self):
        for node in (("input", 3, 0), ("input", 1, 1), ("reg", 2, 0), ("load", 4, 0, 8), ("const", 8, 255)):
            self.good(with_node(node))
        for node in (
            ("input", 1, 0), ("input", 3, 2), ("input", 3, -1), ("input", 3, -2), ("input", 3), ("input", 3, 0, 0),
            ("reg", 3, 0), ("reg", 2, 1), ("reg", 2, -1), ("load", 3, 0, 0), ("load", 4, 1, 0), ("load", 4, -1, 0),
            ("load", 4, 0, 9), ("load", 4, 0, -1), ("load", 4, 0), ("load", 4, 0, 0, 0), ("const", 3, 8),
            ("not",), ("const",), ("input",), ("const", 3, -1), ("const", 3), ("const", 3, 0, 0), ("none", 1, 0), ("", 1), ("const", 8, 256),
        ):
            self.bad(with_node(node))

    def test_operations(self):
        good = [
            ("neg", 3, 0), ("wide", 8, 0), ("wide", 1, 0), ("sign", 3, 0), ("sign", 8, 0), ("any", 1, 0), ("all", 1, 4),
            ("odd", 1, 1), ("sub", 3, 0, 0), ("shl", 3, 0, 4), ("shr", 1, 1, 4), ("lt", 1, 0, 3), ("join", 7, 0, 4),
            ("join", 8, 4, 4), ("pick", 4, 1, 4, 4), ("bits", 1, 4, 3), ("bits", 4, 4, 0), ("ne", 1, 4, 4),
        ]
        bad = [
            ("neg", 2, 0), ("wide", 0, 0), ("sign", 2, 0), ("any", 3, 0), ("sub", 3, 0, 4), ("sub", 4, 0, 0),
            ("shl", 4, 0, 4), ("lt", 3, 0, 3), ("lt", 1, 0, 4), ("join", 8, 0, 4), ("join", 6, 0, 4),
            ("pick", 4, 0, 4, 4), ("pick", 4, 1, 4, 0), ("pick", 3, 1, 4, 4), ("bits", 1, 4, 4), ("bits", 2, 4, 3),
            ("bits", 1, 4, -1), ("bits", 4, 4, 1), ("neg", 3, 9), ("neg", 3, -1), ("neg", 3), ("neg", 3, 0, 0),
            ("sub", 3, 0), ("sub", 3, 0, 0, 0), ("pick", 4, 1, 4), ("pick", 4, 1, 4, 4, 4), ("bits", 1, 4),
            ("bits", 1, 4, 0, 0), ("eq", 1, 0, 9), ("eq", 1, -9, 0), ("bits", 1, 9, 0), ("bits", 1, 4, 1000000),
            ("+", 3, 0, 0), ("word", 3, 0),
        ]
        for node in good:
            self.good(with_node(node))
        for node in bad:
            self.bad(with_node(node))
        self.bad(with_node(("join", 8, 4, 4), ("join", 8, 9, 9)))
        self.bad(with_part(2, (("neg", 3, 1), ("input", 3, 0)) + GRAPH[2][2:]))

    def test_registers(self):
        for reg in (("r", 2, 4, 7), ("r", 2, -1, 7), ("r", 2, 0, 6), ("r", 2, 0, 9), ("r", 2, 0, -2), ("r", 3, 0, 6)):
            self.bad(with_part(3, (reg,)))

    def test_memories(self):
        for size in (0, 9, -1, 1000000):
            self.bad(with_part(4, (("m", 4, size, ()),)))
        for write in ((0, 0, 4), (1, 0, 0), (1, 9, 4), (1, -1, 4), (9, 0, 4), (-1, 0, 4), (1, 0, 9), (1, 0, -5)):
            self.bad(with_part(4, (("m", 4, 8, (write,)),)))
        for write in ((1, 8, 4), (8, 4, 4)):
            self.good(with_part(4, (("m", 4, 1, (write, write)),)))

    def test_outputs_and_claims(self):
        for node in (9, -1, 1000000, -1000000):
            self.bad(with_part(5, (("y", node),)))
            self.bad(with_part(6, (("y", node),)))
        self.bad(with_part(6, (("c", 0),)))
        self.good(with_part(6, (("c", 1), ("d", 1))))

    def test_wrong_copies(self):
        counted = {True: 0, False: 0}
        for seed in range(40):
            maker = Maker(seed, 2)
            graph = graph_of(flatten(maker.design(), maker.numbers()))
            self.good(graph)
            source = random.Random(seed)
            for _ in range(40):
                other = graph
                for _ in range(source.randrange(1, 3)):
                    if source.randrange(4) == 0:
                        at = source.randrange(1, 7)
                        other = other[:at] + (relisted(source, other[at]),) + other[at + 1:]
                    else:
                        other = changed(source, other)
                told = is_graph(other)
                self.assertIs(told, slow_is_graph(other), other)
                counted[told] += 1
        self.assertGreater(min(counted.values()), 100)


class LeanTest(unittest.TestCase):
    def test_lean(self):
        self.assertIs(is_lean(("graph", (("a", 1),), (), (), (), (), ())), True)
        self.assertIs(is_lean(GRAPH), True)

    def test_equal_nodes(self):
        nodes = (("input", 3, 0), ("input", 3, 0))
        self.assertIs(is_lean(("graph", (("a", 3),), nodes, (), (), (("x", 0), ("y", 1)), ())), False)
        nodes = (("input", 3, 0), ("not", 3, 0), ("not", 3, 0))
        self.assertIs(is_lean(("graph", (("a", 3),), nodes, (), (), (("x", 1), ("y", 2)), ())), False)

    def test_reached(self):
        nodes = (("input", 1, 0), ("not", 1, 0))
        self.assertIs(is_lean(("graph", (("a", 1),), nodes, (), (), (), ())), False)
        self.assertIs(is_lean(("graph", (("a", 1),), nodes, (), (), (("y", 0),), ())), False)
        self.assertIs(is_lean(("graph", (("a", 1),), nodes, (), (), (("y", 1),), ())), True)
        self.assertIs(is_lean(("graph", (("a", 1),), nodes, (), (), (), (("c", 1),))), True)
        self.assertIs(is_lean(("graph", (("a", 1),), nodes, (("r", 1, 0, 1),), (), (), ())), True)
        for write in ((1, 0, 0), (0, 1, 0), (0, 0, 1)):
            self.assertIs(is_lean(("graph", (("a", 1),), nodes, (), (("m", 1, 1, (write,)),), (), ())), True)

    def test_reached_through_operands(self):
        nodes = (("input", 1, 0), ("input", 4, 1), ("load", 2, 0, 1), ("bits", 1, 2, 1), ("pick", 1, 0, 3, 0))
        graph = ("graph", (("a", 1), ("b", 4)), nodes, (), (("m", 2, 1, ()),), (("y", 4),), ())
        self.assertIs(is_lean(graph), True)
        self.assertIs(is_lean(graph[:5] + ((("y", 2),), ())), False)


if __name__ == "__main__":
    unittest.main()
