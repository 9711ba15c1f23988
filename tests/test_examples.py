"""The examples at the end of the document, all of them."""
import unittest

from beatfabric.beats import FlatRun
from beatfabric.device import Device
from beatfabric.flatten import flatten
from beatfabric.flow import build_text
from beatfabric.frames import frame_of, read_frame
from beatfabric.reading import read_design
from beatfabric.rings import shortest_ring
from beatfabric.tidy import tidied
from beatfabric.tokens import tokens_of
from beatfabric.traces import traced
from beatfabric.words import result
from beatfabric.writing import write_expr

TEXT = "module m { input a : 1; output y : 1; set y = ~a; }"
COUNTER = "module c { input en : 1; output n : 2; reg r : 2 = 0 when en; set r = r + word(1, 2); set n = r; }"


class ExamplesTest(unittest.TestCase):
    def test_words(self):
        self.assertEqual(result("add", 3, (3, 3), (6, 5)), 3)

    def test_tokens(self):
        self.assertEqual(tokens_of("set x=a<<1;"), ("set", "x", "=", "a", "<<", "1", ";"))

    def test_reading(self):
        self.assertEqual(read_design(TEXT), (("module", "m", (), (
            ("input", ("a", None), ("int", 1)), ("output", ("y", None), ("int", 1)),
            ("set", ("y", None), ("not", ("name", ("a", None)))),
        )),))

    def test_writing(self):
        tree = ("&", ("|", ("name", ("a", None)), ("name", ("b", None))), ("name", ("c", None)))
        self.assertEqual(write_expr(tree), "( a | b ) & c")

    def test_flatten(self):
        self.assertEqual(flatten(read_design(TEXT)), (
            "flat", (("a", 1),), (("y", 1),), (("y", 1),), (), (), (("set", "y", ("not", ("name", "a"))),), (),
        ))

    def test_beats(self):
        rows = ((1,), (1,), (0,), (1,), (1,))
        self.assertEqual(list(FlatRun(flatten(read_design(COUNTER))).beats(rows)), [(0,), (1,), (2,), (2,), (3,)])

    def test_rings(self):
        self.assertEqual(shortest_ring((("a", ("b",)), ("b", ("c", "a")), ("c", ("a",)))), ("a", "b"))

    def test_tidy(self):
        self.assertEqual(tidied(("net", ("a", "b"), (), ((2, 4), (4, 2), (6, 9)), (("y", 10),), ())),
                         ("net", ("a", "b"), (), (), (("y", 0),), ()))

    def test_traces(self):
        net = ("net", ("a",), (("r", 1, 2), ("s", 0, 5)), (), (("y", 6),), ())
        self.assertEqual(traced(net, 6), ((0, 0), 3))

    def test_frames(self):
        self.assertEqual(frame_of((1, 0, 1)), (1, 0, 1, 1, 0, 1, 0))
        self.assertEqual(read_frame(3, (1, 1, 1, 1, 0, 1, 0)), ("bit", 1))

    def test_flow(self):
        shapes = ("ripple", "rows", "steps", "halves")
        settings = (
            "settings", "plain", shapes, ("sweep", "balance"), ("fabric", 3, 3, 4, 3), 0, ("delays", 2, 1, 1, 1),
        )
        device = Device.of(build_text(COUNTER, (), settings))
        told = list(device.beats(((1,), (1,), (0,), (1,), (1,))))
        self.assertEqual(told, [(0, 0), (1, 0), (0, 1), (0, 1), (1, 1)])


if __name__ == "__main__":
    unittest.main()
