"""The nets of graphs: names, operations of all shapes, memories, bounds."""
import itertools
import random
import unittest

from beatfabric.errors import TooLarge
from beatfabric.flatten import flatten
from beatfabric.graphof import graph_of
from beatfabric.graphruns import GraphRun
from beatfabric.graphs import is_graph
from beatfabric.netof import net_of
from beatfabric.netruns import NetRun
from beatfabric.nets import heights, is_net
from beatfabric.reading import read_design
from beatfabric.tidy import tidied
from beatfabric.words import split_ports
from tests.designs import Maker, rows_for
from tests.netmaking import is_plain

ADDERS = ("ripple", "select", "prefix")
MULTIPLIERS = ("rows", "tree")
SHIFTERS = ("steps", "all")
CHOOSERS = ("halves", "each")
SHAPES = list(itertools.product(ADDERS, MULTIPLIERS, SHIFTERS, CHOOSERS))

TWO = {
    "add": lambda w, l, r: l + r, "sub": lambda w, l, r: l - r, "mul": lambda w, l, r: l * r,
    "and": lambda w, l, r: l & r, "or": lambda w, l, r: l | r, "xor": lambda w, l, r: l ^ r,
}
COMPARED = {
    "lt": lambda l, r: l < r, "le": lambda l, r: l <= r, "eq": lambda l, r: l == r, "ne": lambda l, r: l != r,
}


def literal(tables, x, full):
    return tables[x // 2] ^ (full if x & 1 else 0)


_VARIABLES = {}


def variables(many):
    """The tables of so many variables, each over all of them."""
    if many not in _VARIABLES:
        rows = []
        for at in range(many):
            table = ((1 << (1 << at)) - 1) << (1 << at)
            size = 2 << at
            while size < 1 << many:
                table |= table << size
                size *= 2
            rows.append(table)
        _VARIABLES[many] = rows
    return _VARIABLES[many]


def output_tables(net):
    """The tables of the outputs over the inputs and then the registers."""
    many = len(net[1]) + len(net[2])
    full = (1 << (1 << many)) - 1
    tables = [0] + variables(many)
    for left, right in net[3]:
        tables.append(literal(tables, left, full) & literal(tables, right, full))
    return [literal(tables, x, full) for _, x in net[4]]


def wanted_tables(width, words):
    """The tables of the bits of a word, which is told for all bits of the sources."""
    return [int("".join("1" if word >> at & 1 else "0" for word in reversed(words)), 2) for at in range(width)]


def operation_graph(op, width, widths, more=()):
    """A graph of inputs and one operation on them."""
    inputs = tuple((f"i{at}", w) for at, w in enumerate(widths))
    nodes = tuple(("input", w, at) for at, w in enumerate(widths))
    node = (op, width) + tuple(range(len(widths))) + more
    return ("graph", inputs, nodes + (node,), (), (), (("y", len(widths)),), ())


class OperationTest(unittest.TestCase):
    def same(self, graph, words, shapes):
        """Compares the net with the words of the output for all bits of the inputs."""
        self.assertIs(is_graph(graph), True, graph)
        width = graph[2][graph[5][0][1]][1]
        wanted = wanted_tables(width, words)
        for row in shapes:
            net = net_of(graph, row)
            self.assertIs(is_net(net), True)
            self.assertEqual(tidied(net), net)
            self.assertEqual(output_tables(net), wanted, (graph, row))

    def two(self, op, width, widths, action, shapes):
        words = [action(b & (1 << widths[0]) - 1, b >> widths[0]) for b in range(1 << sum(widths))]
        self.same(operation_graph(op, width, widths), [int(word) % (1 << width) for word in words], shapes)

    def test_sums(self):
        shapes = [(adder, "rows", "steps", "halves") for adder in ADDERS]
        for width in range(1, 9):
            for op in ("add", "sub"):
                self.two(op, width, (width, width), lambda l, r: TWO[op](width, l, r), shapes)

    def test_products(self):
        shapes = [(adder, multiplier, "all", "each") for adder in ADDERS for multiplier in MULTIPLIERS]
        for width in range(1, 9):
            self.two("mul", width, (width, width), lambda l, r: l * r, shapes)

    def test_bitwise(self):
        for width in range(1, 9):
            for op in ("and", "or", "xor"):
                self.two(op, width, (width, width), lambda l, r: TWO[op](width, l, r), SHAPES[:1])

    def test_comparisons(self):
        shapes = [(adder, "tree", "all", "each") for adder in ADDERS]
        for width in range(1, 9):
            for op in COMPARED:
                self.two(op, 1, (width, width), COMPARED[op], shapes)

    def test_shifts(self):
        shapes = [("select", "tree", shifter, "each") for shifter in SHIFTERS]
        for width in range(1, 9):
            for other in range(1, 9):
                self.two("shl", width, (width, other), lambda l, r: l << r, shapes)
                self.two("shr", width, (width, other), lambda l, r: l >> r, shapes)

    def test_joins(self):
        for width in range(1, 8):
            for other in range(1, 9 - width):
                self.two("join", width + other, (width, other), lambda l, r: (l << other) + r, SHAPES[:1])

    def test_one_word(self):
        shapes = [(adder, "rows", "steps", "halves") for adder in ADDERS]
        for width in range(1, 9):
            words = range(1 << width)
            full = (1 << width) - 1
            for op, told in (
                ("not", [full - word for word in words]), ("neg", [-word % (1 << width) for word in words]),
            ):
                self.same(operation_graph(op, width, (width,)), told, shapes)
            for op, told in (
                ("any", [int(word != 0) for word in words]), ("all", [int(word == full) for word in words]),
                ("odd", [bin(word).count("1") % 2 for word in words]),
            ):
                self.same(operation_graph(op, 1, (width,)), told, shapes[:1])

    def test_widened(self):
        for width in range(1, 9):
            words = range(1 << width)
            for other in range(1, 9):
                self.same(operation_graph("wide", other, (width,)), [word % (1 << other) for word in words], SHAPES[:1])
            for other in range(width, 9):
                told = [word if word < 1 << width - 1 else word + (1 << other) - (1 << width) for word in words]
                self.same(operation_graph("sign", other, (width,)), told, SHAPES[:1])
            for low in range(width):
                for high in range(low, width):
                    told = [(word >> low) % (1 << high - low + 1) for word in words]
                    self.same(operation_graph("bits", high - low + 1, (width,), (low,)), told, SHAPES[:1])

    def test_picks(self):
        for width in range(1, 8):
            told = []
            for b in range(1 << 2 * width + 1):
                left, right = b >> 1 & (1 << width) - 1, b >> 1 + width
                told.append(left if b & 1 else right)
            self.same(operation_graph("pick", width, (1, width, width)), told, SHAPES[:1])

    def test_equal_operands(self):
        for op, action in TWO.items():
            for shapes in SHAPES:
                nodes = (("input", 3, 0), (op, 3, 0, 0))
                graph = ("graph", (("a", 3),), nodes, (), (), (("y", 1),), ())
                self.same(graph, [action(3, word, word) % 8 for word in range(8)], [shapes])

    def test_constants(self):
        for op, action in TWO.items():
            for const in range(8):
                nodes = (("input", 3, 0), ("const", 3, const), (op, 3, 0, 1), (op, 3, 1, 0))
                told = [action(3, word, const) % 8 for word in range(8)]
                graph = ("graph", (("a", 3),), nodes, (), (), (("y", 2),), ())
                self.same(graph, told, SHAPES)
                graph = ("graph", (("a", 3),), nodes, (), (), (("y", 3),), ())
                self.same(graph, [action(3, const, word) % 8 for word in range(8)], SHAPES)

    def test_loads(self):
        """All addresses, those that do not exist, too, for contents that tell the addresses."""
        for size in range(1, 9):
            for width in range(1, 9):
                nodes = (("input", width, 0), ("load", 4, 0, 0))
                graph = ("graph", (("a", width),), nodes, (), (("m", 4, size, ()),), (("y", 1),), ())
                for chooser in CHOOSERS:
                    run = NetRun(net_of(graph, ("ripple", "rows", "steps", chooser)))
                    run.state = split_ports([("", 4)] * size, [address + 5 for address in range(size)])
                    for address in range(1 << width):
                        told = run.tried((split_ports([("", width)], (address,)),))[0]
                        word = address + 5 if address < size else 0
                        self.assertEqual(told, split_ports([("", 4)], (word,)), (size, width, address))


class BoundsTest(unittest.TestCase):
    def test_bounds(self):
        for width in range(1, 9):
            least = 0
            while 1 << least < width:
                least += 1
            for adder, multiplier, shifter, chooser in SHAPES:
                shapes = (adder, multiplier, shifter, chooser)
                for op in ("add", "sub"):
                    net = net_of(operation_graph(op, width, (width, width)), shapes)
                    if adder == "ripple":
                        self.assertLessEqual(len(net[3]), 9 * width)
                    else:
                        self.assertLessEqual(max(heights(net)), 2 * least + 4)
                net = net_of(operation_graph("mul", width, (width, width)), shapes)
                if adder == "ripple" and multiplier == "rows":
                    self.assertLessEqual(len(net[3]), 10 * width * width)
                if adder != "ripple" and multiplier == "tree":
                    self.assertLessEqual(max(heights(net)), 1 + least * (2 * least + 4))

    def graph_of_many(self, many):
        nodes = (("input", 1, 0),) + tuple(("not", 1, at) for at in range(many - 1))
        return ("graph", (("a", 1),), nodes, (), (), (("y", many - 1),), ())

    def test_size_of_graphs(self):
        self.assertEqual(net_of(self.graph_of_many(400))[4], (("y:0", 3),))
        for many in (401, 402, 1000):
            with self.assertRaises(TooLarge) as caught:
                net_of(self.graph_of_many(many))
            self.assertEqual(caught.exception.part, "graph")


class NamesTest(unittest.TestCase):
    GRAPH = (
        "graph", (("b", 2), ("a", 1)),
        (("input", 2, 0), ("input", 1, 1), ("reg", 3, 1), ("reg", 1, 0), ("const", 3, 6), ("load", 2, 1, 0),
         ("load", 1, 0, 0)),
        (("s", 1, 1, 1), ("r", 3, 6, 4)), (("q", 1, 2, ()), ("p", 2, 3, ((3, 0, 5), (1, 2, 0)))),
        (("z", 2), ("y", 5)), (("d", 6), ("c", 3)),
    )

    def test_names(self):
        self.assertIs(is_graph(self.GRAPH), True)
        for shapes in SHAPES:
            net = net_of(self.GRAPH, shapes)
            self.assertEqual(net[0], "net")
            self.assertEqual(net[1], ("b:0", "b:1", "a:0"))
            self.assertEqual(tuple(row[:2] for row in net[2]), (
                ("s:0", 1), ("r:0", 0), ("r:1", 1), ("r:2", 1), ("q#0:0", 0), ("q#1:0", 0), ("p#0:0", 0),
                ("p#0:1", 0), ("p#1:0", 0), ("p#1:1", 0), ("p#2:0", 0), ("p#2:1", 0),
            ))
            self.assertEqual([name for name, _ in net[4]], ["z:0", "z:1", "z:2", "y:0", "y:1"])
            self.assertEqual([name for name, _ in net[5]], ["d:0", "c:0"])
            self.assertIs(is_net(net) and is_plain(net), True)
            self.assertEqual(tidied(net), net)

    def test_registers_stay(self):
        """Also those that nothing reads, with their nexts."""
        net = net_of(("graph", (("a", 1),), (("input", 1, 0),), (("r", 1, 1, 0),), (("m", 1, 1, ()),), (), ()))
        self.assertEqual(net, ("net", ("a:0",), (("r:0", 1, 2), ("m#0:0", 0, 6)), (), (), ()))

    def test_empty(self):
        for shapes in SHAPES:
            self.assertEqual(net_of(("graph", (), (), (), (), (), ()), shapes), ("net", (), (), (), (), ()))

    def test_the_shapes_are_those_told_by_default(self):
        for seed in range(10):
            graph = small_graph(seed)
            self.assertEqual(net_of(graph), net_of(graph, ("ripple", "rows", "steps", "halves")))
            self.assertEqual(net_of(graph), net_of(graph))


def small_graph(seed):
    """The graph of a random design, of at most 400 nodes."""
    while True:
        maker = Maker(seed, 2)
        graph = graph_of(flatten(maker.design(), maker.numbers()))
        if len(graph[2]) <= 400:
            return graph
        seed += 1000


class RunTest(unittest.TestCase):
    def same(self, graph, many, seed, shapes):
        rows = rows_for(graph[1], many, seed)
        run = GraphRun(graph)
        ports = [(name, graph[2][node][1]) for name, node in graph[5] + graph[6]]
        told = [split_ports(ports, words) for words in run.beats(rows)]
        bits = [split_ports(graph[1], row) for row in rows]
        for row in shapes:
            net = net_of(graph, row)
            self.assertIs(is_net(net), True)
            self.assertEqual(tidied(net), net)
            other = NetRun(net)
            self.assertEqual(list(other.beats(bits)), told)
            contents = split_ports([reg[:2] for reg in graph[3]], run.state[0])
            for mem, words in zip(graph[4], run.state[1]):
                contents += split_ports([("", mem[1])] * mem[2], words)
            self.assertEqual(other.state, contents)

    def test_memories(self):
        """Several writes in a row, addresses that do not exist, addresses of many widths."""
        for width in (1, 2, 3, 5, 8):
            for size in (1, 2, 3, 5, 8):
                graph = graph_of(flatten(read_design((
                    f"module m {{ input a : {width}; input b : {width}; input d : 3; input c : 2; output y : 3;"
                    f"output z : 3; mem q : 3 [ {size} ]; if bits(c, 0, 0) {{ write q[a] = d; }}"
                    "if bits(c, 1, 1) { write q[b] = ~d; write q[a] = q[b]; } set y = q[a]; set z = q[b];"
                    "claim k = q[a] == q[b]; }"
                ))))
                self.same(graph, 60, width, [SHAPES[0], SHAPES[-1]])

    def test_random_graphs(self):
        for seed in range(40):
            source = random.Random(seed)
            self.same(small_graph(seed), 12, seed, [SHAPES[0]] + source.sample(SHAPES, 3))


if __name__ == "__main__":
    unittest.main()
