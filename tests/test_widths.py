"""The widths of flat exprs."""
import unittest

from beatfabric.widths import width_of

FLAT = (
    "flat", (("a", 3), ("b", 3), ("c", 1), ("d", 8)), (("w", 5),), (("w", 5),), (("r", 2, 0, None, None),),
    (("m", 4, 8),), (), (),
)


def name(text):
    return ("name", text)


A, B, C, D = name("a"), name("b"), name("c"), name("d")
BAD = ("+", A, C)


class WidthsTest(unittest.TestCase):
    def width(self, expr):
        return width_of(FLAT, expr)

    def test_names_and_words(self):
        told = {"a": 3, "c": 1, "d": 8, "w": 5, "r": 2}
        for text, width in told.items():
            self.assertEqual(self.width(name(text)), width)
        self.assertEqual(self.width(("word", 0, 1)), 1)
        self.assertEqual(self.width(("word", 255, 8)), 8)

    def test_memories(self):
        self.assertEqual(self.width(("read", "m", A)), 4)
        self.assertEqual(self.width(("read", "m", D)), 4)
        self.assertIsNone(self.width(("read", "m", BAD)))

    def test_equal_sides(self):
        for op in "| ^ & + - *".split():
            self.assertEqual(self.width((op, A, B)), 3)
            self.assertEqual(self.width((op, C, C)), 1)
            self.assertIsNone(self.width((op, A, C)))
        for op in "< <= == !=".split():
            self.assertEqual(self.width((op, A, B)), 1)
            self.assertEqual(self.width((op, D, D)), 1)
            self.assertIsNone(self.width((op, D, A)))

    def test_shifts(self):
        for op in ("<<", ">>"):
            for right in (A, C, D):
                self.assertEqual(self.width((op, A, right)), 3)
            self.assertIsNone(self.width((op, A, BAD)))
            self.assertIsNone(self.width((op, BAD, A)))

    def test_one_side(self):
        for op in ("not", "neg"):
            self.assertEqual(self.width((op, A)), 3)
            self.assertIsNone(self.width((op, BAD)))
        for op in ("any", "all", "odd"):
            self.assertEqual(self.width((op, D)), 1)
            self.assertIsNone(self.width((op, BAD)))

    def test_pick(self):
        self.assertEqual(self.width(("pick", C, A, B)), 3)
        self.assertIsNone(self.width(("pick", A, A, B)))
        self.assertIsNone(self.width(("pick", C, A, D)))
        self.assertIsNone(self.width(("pick", C, A, BAD)))

    def test_bits(self):
        self.assertEqual(self.width(("bits", D, 7, 0)), 8)
        self.assertEqual(self.width(("bits", A, 2, 2)), 1)
        self.assertEqual(self.width(("bits", C, 0, 0)), 1)
        self.assertIsNone(self.width(("bits", A, 3, 0)))
        self.assertIsNone(self.width(("bits", A, 0, 1)))
        self.assertIsNone(self.width(("bits", A, 255, 255)))
        self.assertIsNone(self.width(("bits", D, 255, 0)))
        self.assertIsNone(self.width(("bits", BAD, 0, 0)))

    def test_join(self):
        self.assertEqual(self.width(("join", A, name("w"))), 8)
        self.assertEqual(self.width(("join", C, C)), 2)
        self.assertIsNone(self.width(("join", C, D)))
        self.assertIsNone(self.width(("join", D, D)))
        self.assertIsNone(self.width(("join", BAD, C)))

    def test_wide_and_sign(self):
        self.assertEqual(self.width(("wide", A, 8)), 8)
        self.assertEqual(self.width(("wide", D, 1)), 1)
        self.assertEqual(self.width(("sign", A, 8)), 8)
        self.assertEqual(self.width(("sign", A, 3)), 3)
        self.assertIsNone(self.width(("sign", A, 2)))
        self.assertIsNone(self.width(("wide", BAD, 8)))
        self.assertIsNone(self.width(("sign", BAD, 8)))

    def test_deep_inside(self):
        expr = BAD
        for _ in range(40):
            expr = ("wide", ("not", expr), 2)
        self.assertIsNone(self.width(expr))
        expr = A
        for _ in range(95):
            expr = ("not", expr)
        self.assertEqual(self.width(expr), 3)


if __name__ == "__main__":
    unittest.main()
