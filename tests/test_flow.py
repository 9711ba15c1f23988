"""The whole flow: builds, what they keep, what they raise, and what their devices show."""
import itertools
import random
import unittest

from beatfabric import errors
from beatfabric.beats import FlatRun
from beatfabric.check import check
from beatfabric.clocked import Clocked
from beatfabric.codes import code_paper, recoded
from beatfabric.configs import config_of
from beatfabric.device import Device
from beatfabric.flatten import flatten
from beatfabric.flow import Build, build, build_text
from beatfabric.graphof import graph_of
from beatfabric.netof import net_of
from beatfabric.netruns import NetRun
from beatfabric.nets import is_net
from beatfabric.passes import passed
from beatfabric.places import is_good, judge_places
from beatfabric.placing import place
from beatfabric.reading import read_design
from beatfabric.routes import judge_routes
from beatfabric.routing import route
from beatfabric.streams import configured, inspected, stream_of
from beatfabric.times import judge_slow_path, slow_path, told_clock
from beatfabric.treeruns import DesignRun
from beatfabric.words import split_ports
from beatfabric.writing import write_design
from tests.designs import Maker, rows_for
from tests.netmaking import is_plain
from tests.test_frames import flipped
from tests.test_netof import SHAPES
from tests.test_passes import WORDS
from tests.test_passes_together import TWINS
from tests.test_same import LIGHTS

PLAIN = ("ripple", "rows", "steps", "halves")
LARGE = ("fabric", 8, 8, 12, 4)
ALL_ONES = 2 ** 30 - 1
COUNTER = "module c { input en : 1; output n : 2; reg r : 2 = 0 when en; set r = r + word(1, 2); set n = r; }"
BUFFER = """
module buffer(w) {
  link in p : w; link out q : w; reg full : 1 = 0; reg data : w = 0;
  take p when ~full | q.ready; give q = data when full;
  if p.moves { set data = p.data; set full = word(1, 1); } else { if q.moves { set full = word(0, 1); } }
}
module top(w) {
  link in a : w; link out b : w; link own m : w;
  use u@0 = buffer(w) { tie p = a; tie q = m; }
  use u@1 = buffer(w) { tie p = m; tie q = b; }
  claim held = ~b.valid | b.ready | b.valid;
}
"""
STORE = """
module store(w, n) {
  input place : 2; input fresh : w; input put : 1; output got : w; mem rows : w [n]; reg last : w = 1 reset put;
  if put { write rows[place] = fresh; }
  set got = rows[place] ^ last; set last = rows[place];
}
"""
MACHINE = """
module m {
  input x : 1; output y : 2; states s { one, two, three, four, five }
  case s {
    at 0 { if x { go s to two; } }
    at 1 { go s to three; }
    at 2, 3 { if x { go s to five; } else { go s to one; } }
    at 4 { go s to four; }
  }
  set y = bits(s, 1, 0); claim few = ~(s is four & x);
}
"""
CONSTANT = "module m { output y : 3; output z : 1; set y = word(5, 3); set z = word(0, 1); claim c = word(1, 1); }"
NOTHING = "module m { }"
CROWDED = """
module m {
  input a : 4; output y : 4;
  set y = join(join(odd(a), all(a)), join(any(a), a == word(5, 4)));
}
"""


def settings_of(fabric=LARGE, passes=(), style="plain", shapes=PLAIN, seed=0, delays=("delays", 2, 1, 1, 1)):
    return ("settings", style, shapes, passes, fabric, seed, delays)


def any_settings(source, passes=None):
    """Settings of all kinds, with fabrics that often have room."""
    fabric = ("fabric", source.choice((5, 8, 8)), source.choice((6, 8, 8)), source.choice((3, 6, 12)),
              source.choice((2, 3, 4, 4)))
    if passes is None:
        passes = tuple(source.choice(WORDS) for _ in range(source.randrange(9)))
    delays = ("delays", source.randrange(1, 5), source.randrange(1, 4), source.randrange(3), source.randrange(3))
    style = source.choice(("plain", "dense", "gray", "hot"))
    return ("settings", style, source.choice(SHAPES), passes, fabric, source.choice((0, 1, 1000, 77)), delays)


class FlowCase(unittest.TestCase):
    def shown_by_tree(self, design, numbers, flat, rows):
        """The bits of what the design shows by its own tree."""
        ports = flat[2] + tuple((name, 1) for name, _ in flat[7])
        return [split_ports(ports, words) for words in DesignRun(design, numbers).beats(rows)]

    def same(self, design, numbers, settings, many=20, seed=1):
        """Builds a design, and compares what its devices show with what the design shows."""
        made = build(design, numbers, settings)
        rows = rows_for(made.flat[1], many, seed)
        told = self.shown_by_tree(design, numbers, made.flat, rows)
        bits = [split_ports(made.flat[1], row) for row in rows]
        self.assertEqual(list(Device.of(made).beats(bits)), told)
        source = random.Random(seed)
        self.assertEqual(list(Clocked.of(made, noise=ALL_ONES).beats(bits)), told)
        self.assertEqual(list(Clocked.of(made, period=0, noise=source.randrange(2 ** 30)).beats(bits)), told)
        later = min(200, made.clock + source.randrange(1, 30))
        if later >= made.clock:
            self.assertEqual(list(Clocked.of(made, later, ALL_ONES).beats(bits)), told)
        return made

    def raised(self, kind, design, numbers, settings, **told):
        with self.assertRaises(kind) as caught:
            build(design, numbers, settings)
        self.assertIs(type(caught.exception), kind)
        self.assertEqual(vars(caught.exception), told)


class BuildTest(FlowCase):
    def test_the_example(self):
        settings = settings_of(("fabric", 3, 3, 4, 3), ("sweep", "balance"))
        made = build_text(COUNTER, (), settings)
        rows = ((1,), (1,), (0,), (1,), (1,))
        self.assertEqual(list(Device.of(made).beats(rows)), [(0, 0), (1, 0), (0, 1), (0, 1), (1, 1)])
        self.assertEqual([name for name, _ in made.inputs], ["en:0"])
        self.assertEqual([name for name, _ in made.outputs], ["n:0", "n:1"])

    def check_parts(self, design, numbers, settings):
        made = build(design, numbers, settings)
        _, style, shapes, passes, fabric, seed, delays = settings
        self.assertIsInstance(made, Build)
        self.assertEqual(made.flat, flatten(design, numbers))
        graph = graph_of(made.flat)
        self.assertEqual(made.graph, recoded(graph, code_paper(graph, style)))
        net = net_of(made.graph, shapes)
        for word in passes:
            net = passed(net, word)
        self.assertEqual(made.net, net)
        self.assertIs(is_net(made.net), True)
        cells = made.cells
        self.assertEqual((cells[0], cells[1]), ("cells", net[1]))
        self.assertEqual([name for name, _ in cells[3]], [name for name, _ in net[4] + net[5]])
        self.assertTrue(all(len(leaves) <= fabric[4] for leaves, _, _ in cells[2]))
        self.assertEqual(made.places, place(fabric, cells, seed=seed))
        self.assertIs(judge_places(fabric, cells, made.places) and is_good(fabric, cells, made.places), True)
        self.assertEqual(made.routes, route(fabric, cells, made.places))
        self.assertIs(judge_routes(fabric, cells, made.places, made.routes), True)
        config = config_of(fabric, cells, made.places, made.routes)
        self.assertEqual(made.stream, stream_of(config))
        self.assertEqual(configured(made.stream), config)
        self.assertEqual(made.delays, delays)
        self.assertEqual(made.inputs, tuple(zip(net[1], made.places[2])))
        self.assertEqual(made.outputs, tuple((row[0], pad) for row, pad in zip(net[4] + net[5], made.places[3])))
        pads = tuple(pad for _, pad in made.outputs)
        self.assertEqual(made.clock, told_clock(made.stream, pads, delays))
        path = slow_path(made.stream, pads, delays)
        self.assertIs(judge_slow_path(made.stream, pads, delays, made.clock, path), True)
        parts = [made.flat, made.graph, made.net, made.cells, made.places, made.routes, made.stream, made.delays,
                 made.inputs, made.outputs]
        self.assertIs(all(is_plain(part) for part in parts) and type(made.clock) is int, True)
        again = build(design, numbers, settings)
        self.assertEqual(vars(again), vars(made))
        self.assertEqual(vars(build_text(write_design(design), numbers, settings)), vars(made))

    def test_parts(self):
        for at, (text, numbers) in enumerate(((COUNTER, ()), (LIGHTS, (1,)), (BUFFER, (2,)), (STORE, (2, 3)),
                                              (MACHINE, ()), (CONSTANT, ()), (NOTHING, ()))):
            for style in ("plain", "dense", "gray", "hot"):
                passes = ("sweep", "rewrite", "balance", "sweep")
                self.check_parts(read_design(text), numbers, settings_of(LARGE, passes, style, SHAPES[5 * at % len(SHAPES)], 3))

    def test_seeds(self):
        """The seed comes to the placement; other stages do not depend on it."""
        design = read_design(MACHINE)
        found = set()
        for seed in (0, 1, 2, 3, 4, 5, 999, 1000):
            made = build(design, (), settings_of(seed=seed))
            self.assertEqual(made.places, place(LARGE, made.cells, seed=seed))
            found.add(made.places)
        self.assertGreater(len(found), 1)

    def test_the_style(self):
        for style, width in (("plain", 3), ("dense", 3), ("gray", 3), ("hot", 5)):
            self.assertEqual(build_text(MACHINE, (), settings_of(style=style)).graph[3][0][1], width)

    def test_the_order_of_passes(self):
        """Each pass works on what the passes ahead of it made."""
        text = ("module m { input a : 3; input b : 3; input c : 3; output y : 3; "
                "set y = ((a & b) & c) + (a ^ (b + c)); }")
        nets = {}
        for passes in ((), ("sweep",), ("balance",), ("sweep", "balance"), ("balance", "sweep"), ("rewrite",)):
            nets[passes] = build_text(text, (), settings_of(passes=passes)).net
        self.assertEqual(nets[("sweep", "balance")], passed(nets[("sweep",)], "balance"))
        self.assertEqual(nets[("balance", "sweep")], passed(nets[("balance",)], "sweep"))
        self.assertGreater(len(set(nets.values())), 3)

    def test_of(self):
        """The runs of a build have its pads, delays and told clock."""
        made = build_text(COUNTER, (), settings_of(delays=("delays", 4, 3, 2, 2)))
        pads = tuple(pad for _, pad in made.inputs), tuple(pad for _, pad in made.outputs)
        device = Device.of(made)
        self.assertIs(type(device), Device)
        self.assertEqual(device.state, Device(made.stream, *pads).state)
        rows = ((1,), (0,), (1,), (1,))
        for period in range(1, made.clock + 2):
            for noise in (0, 123456789):
                told = list(Clocked(made.stream, *pads, made.delays, period, noise).beats(rows))
                self.assertEqual(list(Clocked.of(made, period, noise).beats(rows)), told)
                self.assertEqual(list(Clocked.of(made, period=period, noise=noise).beats(rows)), told)
        self.assertEqual(list(Clocked.of(made).beats(rows)), list(device.beats(rows)))
        two = Device.of(made)
        self.assertNotEqual(two.state, device.state)


class ErrorsTest(FlowCase):
    def test_bad_texts(self):
        for settings in (settings_of(), settings_of(("fabric", 1, 1, 1, 2))):
            for text, at in (("", 0), ("module", 1), (COUNTER + " x", 40), ("module m { set y = ; }", 6)):
                with self.assertRaises(errors.BadText) as caught:
                    build_text(text, (1, 2, 3), settings)
                with self.assertRaises(errors.BadText) as other:
                    read_design(text)
                self.assertEqual(caught.exception.at, other.exception.at)
                self.assertEqual(caught.exception.at, at)

    def test_faults_of_designs(self):
        """Flattening is ahead of checking, both are ahead of all that is too large."""
        small = ("fabric", 1, 1, 1, 2)
        cases = (
            ("module m { output y : 9; }", errors.BadNumber, {"value": 9}),
            ("module m { output y : w; }", errors.Unknown, {"name": "w"}),
            ("module m { wire y : 1; wire y : 1; set y = y; }", errors.Twice, {"name": "y"}),
            ("module m(w) { output y : w; }", errors.BadUse, {"name": ""}),
            ("module m { for i in 0 .. 200 { for j in 0 .. 3 { } } }", errors.TooLarge, {"part": "flat"}),
            ("module m { output y : 2; set y = word(0, 1); }", errors.BadWidth, {"name": "y"}),
            ("module m { output y : 1; set y = y; set y = y; }", errors.TwoDrivers, {"name": "y"}),
            ("module m { output y : 1; output z : 8; output x : 8; }", errors.Undriven, {"name": "y"}),
            ("module m { output y : 1; wire z : 1; set y = z; set z = ~y; }", errors.Ring, {"names": ("y", "z")}),
        )
        for text, kind, told in cases:
            for settings in (settings_of(), settings_of(small), settings_of(small, WORDS, "hot", SHAPES[3], 1000)):
                self.raised(kind, read_design(text), (), settings, **told)

    def test_a_fault_in_a_large_design(self):
        """A design that later stages refuse has its fault told."""
        large = "output p : 8; input a : 8; input b : 8; set p = a * b * (a + b);"
        for part, kind, told in (("wire z : 1;", errors.Undriven, {"name": "z"}),
                                 ("claim c = a;", errors.BadWidth, {"name": "c"}),
                                 ("set q = a;", errors.Unknown, {"name": "q"})):
            design = read_design("module m { " + large + part + " }")
            for fabric in (LARGE, ("fabric", 1, 1, 1, 2)):
                self.raised(kind, design, (), settings_of(fabric), **told)
        for fabric in (LARGE, ("fabric", 1, 1, 1, 2)):
            self.raised(errors.TooLarge, read_design("module m { " + large + " }"), (), settings_of(fabric), part="cells")

    def test_a_large_graph(self):
        def text(many, name="a"):
            return "module m { input a : 8; output y : 8; wire w@0 : 8; set w@0 = a; " + "".join(
                f"wire w@{at} : 8; set w@{at} = (w@{at - 1} + word({at}, 8)) ^ word({255 - at}, 8);"
                for at in range(1, many)
            ) + f"set y = w@{many - 1}; claim c = any({name}); }}"

        self.raised(errors.TooLarge, read_design(text(110)), (), settings_of(), part="graph")
        self.raised(errors.TooLarge, read_design(text(110)), (), settings_of(("fabric", 1, 1, 1, 2)), part="graph")
        self.raised(errors.TooLarge, read_design(text(70)), (), settings_of(), part="cells")
        self.raised(errors.BadWidth, read_design(text(110, "join(a, a)")), (), settings_of(), name="c")

    def test_too_many_cells(self):
        made = build_text(COUNTER, (), settings_of())
        many = len(made.cells[2])
        self.assertEqual(many, 2)
        build_text(COUNTER, (), settings_of(("fabric", 2, 1, 12, 4)))
        self.raised(errors.TooLarge, read_design(COUNTER), (), settings_of(("fabric", 1, 1, 12, 4)), part="cells")
        # Cells are told ahead of pads.
        text = "module m { input a : 8; output y : 8; set y = ~a; }"
        self.raised(errors.TooLarge, read_design(text), (), settings_of(("fabric", 1, 1, 1, 4)), part="cells")

    def test_too_many_pads(self):
        text = "module m { input a : 5; output y : 5; set y = a; }"
        self.raised(errors.TooLarge, read_design(text), (), settings_of(("fabric", 1, 1, 1, 4)), part="pads")
        self.same(read_design(text), (), settings_of(("fabric", 1, 1, 2, 4)))
        text = "module m { input a : 4; output y : 4; set y = a; claim c = odd(a); }"
        self.raised(errors.TooLarge, read_design(text), (), settings_of(("fabric", 1, 1, 1, 4)), part="pads")
        text = "module m { input a : 5; }"
        self.raised(errors.TooLarge, read_design(text), (), settings_of(("fabric", 1, 1, 1, 4)), part="pads")

    def test_not_routable(self):
        """Each of four tiles in a row needs all four inputs, with one track."""
        design = read_design(CROWDED)
        for seed in (0, 1, 1000):
            self.raised(errors.NotRoutable, design, (), settings_of(("fabric", 4, 1, 1, 4), ("sweep",), seed=seed))
            self.same(design, (), settings_of(("fabric", 4, 1, 4, 4), ("sweep",), seed=seed))

    def test_fabrics_beyond_the_limits(self):
        """They are built, too; but no stream can tell of them."""
        for fabric in (("fabric", 9, 8, 4, 3), ("fabric", 3, 3, 13, 3), ("fabric", 3, 3, 4, 5)):
            made = build_text(COUNTER, (), settings_of(fabric))
            self.assertIs(judge_routes(fabric, made.cells, made.places, made.routes), True)
            with self.assertRaises(errors.BadStream):
                Device.of(made)

    def test_nothing_else_is_raised(self):
        """For designs that the checker lets: TooLarge, NotRoutable, or a build."""
        found = {"build": 0, "TooLarge": 0, "NotRoutable": 0}
        for seed in range(120):
            source = random.Random(seed)
            maker = Maker(seed, source.choice((1, 1, 2, 3)))
            settings = any_settings(source)
            fabric = ("fabric", source.randrange(1, 9), source.randrange(1, 9), source.randrange(1, 4), settings[4][4])
            try:
                build(maker.design(), maker.numbers(), settings[:4] + (fabric,) + settings[5:])
                found["build"] += 1
            except (errors.TooLarge, errors.NotRoutable) as error:
                found[type(error).__name__] += 1
        self.assertGreater(found["build"], 15)
        self.assertGreater(found["TooLarge"], 15)


class SameTest(FlowCase):
    def test_random_designs(self):
        many = 0
        for seed in range(150):
            source = random.Random(seed)
            maker = Maker(seed, source.choice((1, 1, 2)))
            try:
                self.same(maker.design(), maker.numbers(), any_settings(source), 16, seed)
                many += 1
            except (errors.TooLarge, errors.NotRoutable):
                continue
        self.assertGreater(many, 60)

    def test_designs(self):
        """State machines, links, memories, used modules, by all styles and passes."""
        cases = ((LIGHTS, (1,)), (BUFFER, (1,)), (BUFFER, (3,)), (STORE, (1, 4)), (STORE, (2, 3)),
                 (MACHINE, ()), (TWINS, (2,)), (TWINS, (3,)), (COUNTER, ()), (CROWDED, ()))
        for at, (text, numbers) in enumerate(cases):
            for style, passes in zip(("plain", "dense", "gray", "hot"),
                                     (("sweep", "rewrite"), ("rewrite", "bond", "sweep", "balance"),
                                      ("sweep", "retime", "sweep", "bare"), ("bare", "sweep", "rewrite", "balance"))):
                settings = settings_of(LARGE, passes, style, SHAPES[7 * at % len(SHAPES)], at)
                self.same(read_design(text), numbers, settings, 60, at)

    def test_every_pass(self):
        for word in WORDS:
            for text in (MACHINE, COUNTER, CONSTANT, NOTHING):
                for many in (1, 2, 8):
                    self.same(read_design(text), (), settings_of(passes=(word,) * many), 12)

    def test_eight_passes(self):
        for seed in range(40):
            source = random.Random(seed)
            passes = tuple(source.choice(WORDS) for _ in range(8))
            self.same(read_design(source.choice((MACHINE, COUNTER, CROWDED))), (), any_settings(source, passes)[:4] + (
                LARGE, seed, ("delays", 1, 3, 2, 2)), 20, seed)

    def test_delays(self):
        """All delays at their least and greatest."""
        design = read_design(MACHINE)
        for row in itertools.product((1, 4), (1, 3), (0, 2), (0, 2)):
            self.same(design, (), settings_of(delays=("delays", *row)), 20)

    def test_no_inputs_and_no_outputs(self):
        for fabric in (("fabric", 1, 1, 2, 2), LARGE):
            for text in (NOTHING, CONSTANT):
                if text == CONSTANT and fabric != LARGE:
                    continue
                self.same(read_design(text), (), settings_of(fabric), 3)
        made = build_text("module m { input a : 1; reg r : 1 = 1; set r = a; }", (), settings_of())
        self.assertEqual(list(Device.of(made).beats(((1,), (0,)))), [(), ()])
        self.assertEqual(list(Clocked.of(made).beats(((1,), (0,)))), [(), ()])

    def test_mended_streams(self):
        """A device is configured by the stream alone, with one wrong bit in it."""
        made = build_text(MACHINE, (), settings_of())
        pads = tuple(pad for _, pad in made.inputs), tuple(pad for _, pad in made.outputs)
        rows = [(at // 3 % 2,) for at in range(20)]
        told = list(Device.of(made).beats(rows))
        for at in range(0, len(made.stream), 997):
            wrong = flipped(made.stream, at)
            self.assertNotEqual(inspected(wrong), inspected(made.stream))
            self.assertEqual(list(Device(wrong, *pads).beats(rows)), told)

    def test_for_ever(self):
        """All inputs from the starts on until no new pair of states of the flat design and the device comes up."""
        cases = [(read_design(text), numbers) for text, numbers in (
            (COUNTER, ()), (MACHINE, ()), (TWINS, (2,)), (BUFFER, (1,)), (CROWDED, ()), (CONSTANT, ()))]
        for seed in range(300, 360):
            maker = Maker(seed, 1)
            cases.append((maker.design(), maker.numbers()))
        many = 0
        for at, (design, numbers) in enumerate(cases):
            source = random.Random(at)
            try:
                made = build(design, numbers, any_settings(source))
            except (errors.TooLarge, errors.NotRoutable):
                continue
            if sum(width for _, width in made.flat[1]) <= 6:
                many += self.closed(made)
        self.assertGreater(many, 10)

    def closed(self, made):
        """Whether all pairs of states were looked at; at most 400."""
        ports = made.flat[2] + tuple((name, 1) for name, _ in made.flat[7])
        run, device = FlatRun(made.flat), Device.of(made)
        rows = list(itertools.product(*[range(2 ** width) for _, width in made.flat[1]]))
        seen = {}
        todo = [(run.state, device.state)]
        while todo and len(seen) < 400:
            pair = todo.pop()
            if pair in seen:
                continue
            seen[pair] = True
            for row in rows:
                run.state, device.state = pair
                told = split_ports(ports, run.beat(row))
                self.assertEqual(device.beat(split_ports(made.flat[1], row)), told)
                todo.append((run.state, device.state))
        return not todo

    def test_nets_behind_the_passes(self):
        """What the net of a build shows is what its cells' pads show."""
        for seed in range(20):
            maker = Maker(seed, 1)
            source = random.Random(seed)
            try:
                made = build(maker.design(), maker.numbers(), any_settings(source))
            except (errors.TooLarge, errors.NotRoutable):
                continue
            check(made.flat)
            bits = [tuple(source.randrange(2) for _ in made.net[1]) for _ in range(15)]
            self.assertEqual(list(Device.of(made).beats(bits)), list(NetRun(made.net).beats(bits)))


if __name__ == "__main__":
    unittest.main()
