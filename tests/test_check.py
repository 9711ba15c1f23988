"""The faults that the checker finds in flat designs, in the order told."""
import unittest

from beatfabric.check import check
from beatfabric.errors import BadWidth, Ring, TwoDrivers, Undriven
from beatfabric.flatten import flatten
from beatfabric.reading import read_design


def flat_of(items):
    return flatten(read_design("module m { " + items + " }"))


class CheckTest(unittest.TestCase):
    def good(self, items):
        self.assertIsNone(check(flat_of(items)))

    def fault(self, kind, argument, items):
        with self.assertRaises(kind) as caught:
            check(flat_of(items))
        self.assertIs(type(caught.exception), kind)
        self.assertEqual(list(vars(caught.exception).values()), [argument])


class WidthsTest(CheckTest):
    START = "input a : 1; input b : 2; wire x : 2; wire y : 1; reg r : 2 = 0; mem q : 3 [ 2 ]; "

    def test_good(self):
        self.good("")
        self.good("input a : 8; output y : 1; set y = all(a); claim c = a == a;")

    def test_registers(self):
        self.fault(BadWidth, "r", "input b : 2; reg r : 1 = 0 when b;")
        self.fault(BadWidth, "r", "input b : 2; reg r : 1 = 0 reset b;")
        self.fault(BadWidth, "s", "input b : 2; reg r : 2 = 0 when any(b) reset any(b); reg s : 1 = 0 reset -b;")

    def test_targets(self):
        self.fault(BadWidth, "x", self.START + "set x = a;")
        self.fault(BadWidth, "y", self.START + "set x = b; set y = b;")
        self.fault(BadWidth, "r", self.START + "set r = a;")
        self.fault(BadWidth, "x", self.START + "set x = wide(~(a + b), 2);")

    def test_writes(self):
        self.good("input a : 1; input b : 8; mem q : 3 [ 2 ]; write q[b] = wide(a, 3);")
        self.fault(BadWidth, "q", self.START + "write q[a] = b;")
        self.fault(BadWidth, "q", self.START + "write q[a + b] = wide(b, 3);")
        self.fault(BadWidth, "x", self.START + "set x = q[a];")

    def test_conditions(self):
        self.fault(BadWidth, "if", self.START + "if b { }")
        self.fault(BadWidth, "if", self.START + "if a + b == b { }")
        self.fault(BadWidth, "case", self.START + "case a + b { }")
        self.good("input a : 1; case a { } if a { }")

    def test_numbers_of_a_case(self):
        self.good("input b : 2; case b { at 0, 3 { } at 1 { } at 2 { } }")
        self.good("input b : 8; case b { at 255 { } }")
        self.fault(BadWidth, "case", self.START + "case b { at 4 { } }")
        self.fault(BadWidth, "case", self.START + "case a { at 2 { } }")
        self.fault(BadWidth, "case", self.START + "case b { at 1, 1 { } }")
        self.fault(BadWidth, "case", self.START + "case b { at 1 { } at 0, 1 { } }")

    def test_claims(self):
        self.fault(BadWidth, "c", "input b : 2; claim c = b;")
        self.fault(BadWidth, "d", "input b : 2; claim c = odd(b); claim d = b == any(b);")

    def test_order(self):
        self.fault(BadWidth, "r", "input b : 2; wire x : 1; set x = b; reg r : 1 = 0 when b;")
        self.fault(BadWidth, "x", "input b : 2; claim c = b; wire x : 1; set x = b;")
        self.fault(BadWidth, "s", "input b : 2; reg s : 1 = 0 when b reset b; reg r : 1 = 0 when b;")
        self.fault(BadWidth, "if", self.START + "if b { set x = a; }")
        self.fault(BadWidth, "x", self.START + "if a { set x = a; } else { set y = b; }")
        self.fault(BadWidth, "y", self.START + "if a { } else { set y = b; } set x = a;")
        self.fault(BadWidth, "case", self.START + "case b { at 0 { set x = a; } at 4 { } }")
        self.fault(BadWidth, "x", self.START + "case b { at 0 { set x = a; } at 3 { set y = b; } else { set y = b; } }")
        self.fault(BadWidth, "y", self.START + "case b { at 0 { } at 3 { set y = b; } else { set x = a; } }")
        self.fault(BadWidth, "x", self.START + "case b { at 0 { } else { set x = a; } } set y = b;")
        self.fault(BadWidth, "x", self.START + "if a { if a { set x = a; } set y = b; } set y = b;")

    def test_widths_come_ahead_of_drivers(self):
        self.fault(BadWidth, "c", "input b : 2; wire x : 1; wire y : 1; set y = y; set y = y; claim c = b;")


class DriversTest(CheckTest):
    def test_undriven(self):
        self.fault(Undriven, "x", "wire x : 1;")
        self.fault(Undriven, "x", "output y : 1; wire x : 1; input a : 1; set y = a;")
        self.fault(Undriven, "l.ready", "link in l : 1;")
        self.fault(Undriven, "l.data", "link out l : 1;")
        self.good("input a : 1; reg r : 1 = 0; mem q : 1 [ 1 ];")

    def test_two_drivers(self):
        self.fault(TwoDrivers, "x", "input a : 1; wire x : 1; set x = a; set x = a;")
        self.fault(TwoDrivers, "x", "input a : 1; wire x : 1; set x = a; if a { if a { } else { set x = a; } }")
        self.good("input a : 1; wire x : 1; if a { set x = a; set x = a; } else { set x = a; }")

    def test_registers_and_memories(self):
        self.fault(TwoDrivers, "r", "input a : 1; reg r : 1 = 0; set r = a; if a { set r = a; }")
        self.fault(TwoDrivers, "q", "input a : 1; mem q : 1 [ 1 ]; write q[a] = a; case a { at 0 { write q[a] = a; } }")
        self.fault(TwoDrivers, "s", "states s { a, b } go s to a; go s to b;")
        self.good("input a : 1; reg r : 1 = 0; mem q : 1 [ 1 ]; if a { set r = a; set r = a; write q[a] = a; "
                  "write q[a] = a; }")

    def test_order(self):
        two = "input a : 1; set x = a; set x = a; "
        self.fault(Undriven, "w", two + "wire w : 1; wire x : 1;")
        self.fault(TwoDrivers, "x", two + "wire x : 1; wire w : 1;")
        self.fault(Undriven, "w", "input a : 1; reg r : 1 = 0; set r = a; set r = a; wire w : 1;")
        twice = "input a : 1; mem q : 1 [ 1 ]; reg r : 1 = 0; reg s : 1 = 0; write q[a] = a; write q[a] = a; "
        self.fault(TwoDrivers, "r", twice + "set s = a; set r = a; set s = a; set r = a;")
        self.fault(TwoDrivers, "q", twice)
        self.fault(TwoDrivers, "x", "input a : 1; wire x : 1; if a { set x = a; } if a { set x = a; }")

    def test_ifs(self):
        start = "input a : 1; wire x : 1; "
        self.good(start + "if a { set x = a; } else { set x = a; }")
        self.fault(Undriven, "x", start + "if a { set x = a; }")
        self.fault(Undriven, "x", start + "if a { } else { set x = a; }")
        self.fault(Undriven, "x", start + "wire z : 1; if a { set x = a; } else { set z = a; }")
        self.fault(Undriven, "x", start + "mem q : 1 [ 1 ]; if a { set x = a; } else { write q[a] = a; }")
        self.fault(Undriven, "x", start + "reg r : 1 = 0; if a { set r = a; } else { set x = a; }")
        self.good(start + "if a { if a { set x = a; } set x = ~a; } else { set x = a; if a { set x = a; } }")
        self.fault(Undriven, "x", start + "if a { set x = a; } else { if a { set x = a; } if ~a { set x = a; } }")

    def test_cases(self):
        start = "input a : 1; input b : 2; wire x : 1; "
        self.good(start + "case b { else { set x = a; } }")
        self.good(start + "case b { at 1 { set x = a; } else { set x = a; } }")
        self.fault(Undriven, "x", start + "case b { at 1 { } else { set x = a; } }")
        self.fault(Undriven, "x", start + "case b { at 1 { set x = a; } }")
        self.fault(Undriven, "x", start + "case b { at 0, 1 { set x = a; } at 2 { set x = a; } }")
        self.good(start + "case b { at 0, 1 { set x = a; } at 2, 3 { set x = a; } }")
        self.good(start + "case a { at 1, 0 { set x = a; } }")
        self.fault(Undriven, "x", start + "case b { at 0, 1, 2 { set x = a; } at 3 { } }")
        self.fault(Undriven, "x", start + "case b { at 0, 1, 2, 3 { if a { set x = a; } } else { set x = a; } }")

    def test_all_words_of_the_greatest_width(self):
        numbers = ", ".join(str(word) for word in range(256))
        start = "input b : 8; wire x : 8; "
        self.good(start + f"case b {{ at {numbers} {{ set x = b; }} }}")
        self.fault(Undriven, "x", start + f"case b {{ at {numbers[3:]} {{ set x = b; }} }}")

    def test_drivers_come_ahead_of_rings(self):
        self.fault(Undriven, "z", "wire x : 1; set x = x; wire z : 1;")


class RingsTest(CheckTest):
    def test_rings(self):
        self.fault(Ring, ("x",), "wire x : 1; set x = ~x;")
        self.fault(Ring, ("x", "y"), "wire y : 1; wire x : 1; set x = y; set y = x;")
        self.fault(Ring, ("a", "c", "b"), "wire a : 1; wire b : 1; wire c : 1; set a = c; set c = b; set b = a;")

    def test_shortest_and_least(self):
        self.fault(Ring, ("d", "e"), (
            "wire a : 1; wire b : 1; wire c : 1; wire d : 1; wire e : 1;"
            "set a = b; set b = c; set c = a; set d = e; set e = d;"
        ))
        self.fault(Ring, ("a",), "wire a : 1; wire b : 1; set a = a; set b = b;")

    def test_conditions(self):
        self.fault(Ring, ("x",), "input a : 1; wire x : 1; if x { set x = a; } else { set x = a; }")
        self.fault(Ring, ("x",), "input a : 1; wire x : 1; case x { at 0, 1 { if a { set x = a; } set x = a; } }")
        self.fault(Ring, ("x", "y"), (
            "input a : 1; wire x : 1; wire y : 1; set y = x; if a { if y { set x = a; } set x = a; } else { set x = a; }"
        ))
        self.good((
            "input a : 1; wire x : 1; wire y : 1; if a { set y = x; set x = a; } else { set y = a; set x = a; }"
        ))

    def test_addresses(self):
        self.fault(Ring, ("x",), "wire x : 1; mem q : 1 [ 1 ]; set x = q[x];")

    def test_no_ring_through_registers_and_memories(self):
        self.good("wire x : 1; reg r : 1 = 0 when x reset x; mem q : 1 [ 2 ]; set x = r | q[r]; set r = x; write q[x] = x;")

    def test_ring_that_cannot_come(self):
        self.fault(Ring, ("x", "y"), (
            "input a : 1; wire x : 1; wire y : 1; if a { set x = y; set y = a; } else { set x = a; set y = x; }"
        ))

    def test_through_used_modules(self):
        text = (
            "module p { input a : 1; output y : 1; set y = ~a; } "
            "module top { use u = p { a = v.y; } use v = p { a = u.y; } }"
        )
        with self.assertRaises(Ring) as caught:
            check(flatten(read_design(text)))
        self.assertEqual(caught.exception.names, ("u.a", "v.y", "v.a", "u.y"))


class DeepTest(CheckTest):
    def test_deep(self):
        body = (("set", "x", ("name", "a")),)
        for at in range(47):
            body = (("if", ("name", "a"), body, body if at < 2 else (("set", "x", ("name", "a")),)),)
        flat = ("flat", (("a", 1),), (), (("x", 1),), (), (), body, ())
        self.assertIsNone(check(flat))
        expr = ("name", "a")
        for _ in range(96):
            expr = ("not", expr)
        self.assertIsNone(check(("flat", (("a", 1),), (), (("x", 1),), (), (), (("set", "x", expr),), ())))


if __name__ == "__main__":
    unittest.main()
