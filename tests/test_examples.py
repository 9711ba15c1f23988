"""The examples at the end of the document that the program answers so far."""
import unittest

from beatfabric.beats import FlatRun
from beatfabric.flatten import flatten
from beatfabric.reading import read_design
from beatfabric.rings import shortest_ring
from beatfabric.tidy import tidied
from beatfabric.tokens import tokens_of
from beatfabric.words import result
from beatfabric.writing import write_expr

TEXT = "module m { input a : 1; output y : 1; set y = ~a; }"
COUNTER = "module c { input en : 1; output n : 2; reg r : 2 = 0 when en; set r = r + word(1, 2); set n = r; }"


class ExamplesTest(unittest.TestCase):
    def test_words(self):
        self.assertEqual(result("add", 3, (3, 3), (6, 5)), 3)

    def test_tokens(self):
        self.assertEqual(tokens_of("set x=a<<1;"), ("set", "x", "=", "a", "<<", "1", ";"))

    def test_reading(self):
        self.assertEqual(read_design(TEXT), (("module", "m", (), (
            ("input", ("a", None), ("int", 1)), ("output", ("y", None), ("int", 1)),
            ("set", ("y", None), ("not", ("name", ("a", None)))),
        )),))

    def test_writing(self):
        tree = ("&", ("|", ("name", ("a", None)), ("name", ("b", None))), ("name", ("c", None)))
        self.assertEqual(write_expr(tree), "( a | b ) & c")

    def test_flatten(self):
        self.assertEqual(flatten(read_design(TEXT)), (
            "flat", (("a", 1),), (("y", 1),), (("y", 1),), (), (), (("set", "y", ("not", ("name", "a"))),), (),
        ))

    def test_beats(self):
        rows = ((1,), (1,), (0,), (1,), (1,))
        self.assertEqual(list(FlatRun(flatten(read_design(COUNTER))).beats(rows)), [(0,), (1,), (2,), (2,), (3,)])

    def test_rings(self):
        self.assertEqual(shortest_ring((("a", ("b",)), ("b", ("c", "a")), ("c", ("a",)))), ("a", "b"))

    def test_tidy(self):
        self.assertEqual(tidied(("net", ("a", "b"), (), ((2, 4), (4, 2), (6, 9)), (("y", 10),), ())),
                         ("net", ("a", "b"), (), (), (("y", 0),), ()))


if __name__ == "__main__":
    unittest.main()
