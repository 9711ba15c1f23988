"""What flattening makes of designs without a fault."""
import unittest

from beatfabric.flatten import flatten
from beatfabric.reading import read_design


def flat_of(text, numbers=()):
    return flatten(read_design(text), numbers)


def name(text):
    return ("name", text)


ONE = ("word", 1, 1)


class DeclaringTest(unittest.TestCase):
    def test_empty(self):
        self.assertEqual(flat_of("module m { }"), ("flat", (), (), (), (), (), (), ()))

    def test_the_example(self):
        text = "module m { input a : 1; output y : 1; set y = ~a; }"
        self.assertEqual(flat_of(text), (
            "flat", (("a", 1),), (("y", 1),), (("y", 1),), (), (), (("set", "y", ("not", name("a"))),), (),
        ))

    def test_the_last_module_is_the_top(self):
        self.assertEqual(flat_of("module a { wire x : 1; } module b { wire y : 2; }")[3], (("y", 2),))

    def test_lists_in_order(self):
        flat = flat_of("module m { wire b : 2; output a : 8; input i : 1; output o : 1; wire c : 3; input h : 7; }")
        self.assertEqual(flat[1], (("i", 1), ("h", 7)))
        self.assertEqual(flat[2], (("a", 8), ("o", 1)))
        self.assertEqual(flat[3], (("b", 2), ("a", 8), ("o", 1), ("c", 3)))

    def test_registers_and_memories(self):
        flat = flat_of("module m { input a:1; reg r:2=3 when a; mem q:4[8]; reg s:8=255 reset ~a; reg t:1=0; }")
        self.assertEqual(flat[4], (
            ("r", 2, 3, name("a"), None), ("s", 8, 255, None, ("not", name("a"))), ("t", 1, 0, None, None),
        ))
        self.assertEqual(flat[5], (("q", 4, 8),))

    def test_state_machines(self):
        for many, width in ((1, 1), (2, 1), (3, 2), (4, 2), (5, 3), (8, 3), (9, 4), (16, 4)):
            names = ", ".join(f"n{at}" for at in range(many))
            text = f"module m {{ output y : 1; states s {{ {names} }} set y = s is n{many - 1}; go s to n0; }}"
            flat = flat_of(text)
            self.assertEqual(flat[4], (("s", width, 0, None, None),))
            self.assertEqual(flat[6], (
                ("set", "y", ("==", name("s"), ("word", many - 1, width))), ("set", "s", ("word", 0, width)),
            ))

    def test_links_of_the_top(self):
        flat = flat_of("module m { link in a : 3; link out b : 4; link own c : 5; }")
        self.assertEqual(flat[1], (("a.data", 3), ("a.valid", 1), ("b.ready", 1)))
        self.assertEqual(flat[2], (("a.ready", 1), ("b.data", 4), ("b.valid", 1)))
        self.assertEqual(flat[3], (
            ("a.ready", 1), ("b.data", 4), ("b.valid", 1), ("c.data", 5), ("c.valid", 1), ("c.ready", 1),
        ))

    def test_numbers(self):
        flat = flat_of("module m(w, n) { wire a@n : w; wire b@(n + 1) : w - 1; }", (8, 0))
        self.assertEqual(flat[3], (("a@0", 8), ("b@1", 7)))


class CopiesTest(unittest.TestCase):
    def test_copies(self):
        flat = flat_of("module m { for k in 2 .. 5 { wire w@k : k; set w@k = word(k, k); } }")
        self.assertEqual(flat[3], (("w@2", 2), ("w@3", 3), ("w@4", 4)))
        self.assertEqual(flat[6], tuple(("set", f"w@{k}", ("word", k, k)) for k in (2, 3, 4)))

    def test_no_copies(self):
        for bounds in ("3 .. 3", "4 .. 3", "255 .. 0"):
            text = f"module m {{ for k in {bounds} {{ wire w@n : 99; use u = none {{ }} set zz = w; }} }}"
            self.assertEqual(flat_of(text), flat_of("module m { }"))

    def test_hidden_parameters(self):
        text = "module m(k) { for k in k .. k + 2 { for k in k .. k + 1 { wire w@k : 1; } wire v@k : 1; } wire u@k : 1; }"
        self.assertEqual([row[0] for row in flat_of(text, (3,))[3]], ["w@3", "v@3", "w@4", "v@4", "u@3"])

    def test_copies_of_statements(self):
        text = "module m(n) { wire x : 8; if word(1,1) { for k in 0 .. n { set x = word(k, 8); } set x = word(9, 8); } }"
        self.assertEqual(flat_of(text, (2,))[6], ((
            "if", ONE,
            (("set", "x", ("word", 0, 8)), ("set", "x", ("word", 1, 8)), ("set", "x", ("word", 9, 8))), (),
        ),))
        self.assertEqual(len(flat_of(text, (0,))[6][0][2]), 1)


class StatementsTest(unittest.TestCase):
    def test_statements(self):
        text = (
            "module m { input a : 2; wire x : 2; reg r : 2 = 0; mem q : 2 [ 4 ];"
            "if a == word(1, 2) { set x = a; } else { set r = a; write q[a] = r; }"
            "case a { at 0, 1 + 1 { set x = a; } at 3 { } else { set x = q[a]; } } }"
        )
        self.assertEqual(flat_of(text)[6], (
            ("if", ("==", name("a"), ("word", 1, 2)), (("set", "x", name("a")),),
             (("set", "r", name("a")), ("write", "q", name("a"), name("r")))),
            ("case", name("a"), (((0, 2), (("set", "x", name("a")),)), ((3,), ())),
             (("set", "x", ("read", "q", name("a"))),)),
        ))

    def test_exprs(self):
        a = name("a")
        told = {
            "~a": ("not", a), "-a": ("neg", a), "word(3, 1+1)": ("word", 3, 2), "bits(a, 4-1, 0)": ("bits", a, 3, 0),
            "join(a, a)": ("join", a, a), "wide(a, 8)": ("wide", a, 8), "sign(a, 1)": ("sign", a, 1),
            "any(a)": ("any", a), "all(a)": ("all", a), "odd(a)": ("odd", a), "pick(a, a, a)": ("pick", a, a, a),
        }
        for op in "| ^ & == != < <= << >> + - *".split():
            told[f"a {op} a"] = (op, a, a)
        for text, expr in told.items():
            flat = flat_of(f"module m {{ input a : 4; output y : 4; set y = {text}; }}")
            self.assertEqual(flat[6][0][2], expr)

    def test_bits_are_not_looked_at(self):
        flat = flat_of("module m { input a : 1; output y : 1; set y = bits(a, 0, 255); }")
        self.assertEqual(flat[6][0][2], ("bits", name("a"), 0, 255))

    def test_give_and_take(self):
        text = (
            "module m { input a : 1; link in i : 1; link out o : 1; link own w : 1;"
            "give o = a when ~a; give w = a; take i when a; take w; }"
        )
        self.assertEqual(flat_of(text)[6], (
            ("set", "o.data", name("a")), ("set", "o.valid", ("not", name("a"))),
            ("set", "w.data", name("a")), ("set", "w.valid", ONE),
            ("set", "i.ready", name("a")), ("set", "w.ready", ONE),
        ))

    def test_parts_of_links(self):
        text = "module m { link own l@2 : 4; claim c = l@2.moves; claim d = l@2.valid; claim e = l@2.ready | l@2.data; }"
        self.assertEqual(flat_of(text)[7], (
            ("c", ("&", name("l@2.valid"), name("l@2.ready"))), ("d", name("l@2.valid")),
            ("e", ("|", name("l@2.ready"), name("l@2.data"))),
        ))

    def test_names_of_all_kinds(self):
        text = (
            "module m { input i : 1; output o : 1; wire w : 1; reg r : 1 = 0; states s { a }"
            "claim c = i ^ o ^ w ^ r ^ s; }"
        )
        expr = ("^", ("^", ("^", ("^", name("i"), name("o")), name("w")), name("r")), name("s"))
        self.assertEqual(flat_of(text)[7], (("c", expr),))


class UsesTest(unittest.TestCase):
    LEAF = "module leaf(w) { input a : w; output y@1 : w; reg r : w = 0 when a; set y@1 = r; claim ok = a; } "

    def test_used_modules(self):
        text = self.LEAF + (
            "module top { input x : 1; use u@0 = leaf(1) { a = ~x; } claim c = u@0.y@1; wire z : 1; set z = x; }"
        )
        self.assertEqual(flat_of(text), (
            "flat", (("x", 1),), (), (("u@0.a", 1), ("u@0.y@1", 1), ("z", 1)),
            (("u@0.r", 1, 0, name("u@0.a"), None),), (),
            (("set", "u@0.a", ("not", name("x"))), ("set", "u@0.y@1", name("u@0.r")), ("set", "z", name("x"))),
            (("u@0.ok", name("u@0.a")), ("c", name("u@0.y@1"))),
        ))

    def test_uses_in_uses(self):
        text = self.LEAF + (
            "module mid { input b : 2; use v = leaf(2) { a = b; } } "
            "module top { input x : 2; for k in 0 .. 2 { use u@k = mid { b = x; } } }"
        )
        flat = flat_of(text)
        self.assertEqual([row[0] for row in flat[3]], [
            "u@0.b", "u@0.v.a", "u@0.v.y@1", "u@1.b", "u@1.v.a", "u@1.v.y@1",
        ])
        self.assertEqual([row[0] for row in flat[4]], ["u@0.v.r", "u@1.v.r"])
        self.assertEqual(flat[6][1], ("set", "u@0.v.a", name("u@0.b")))
        self.assertEqual([row[0] for row in flat[7]], ["u@0.v.ok", "u@1.v.ok"])

    def test_parameters_do_not_reach_inside(self):
        text = (
            "module leaf(k) { input a@k : 1; } "
            "module top(k) { input x : 1; for j in 0 .. 1 { use u = leaf(k + 1) { a@(k + j + 1) = x; } } }"
        )
        self.assertEqual(flat_of(text, (4,))[3], (("u.a@5", 1),))

    def test_ties(self):
        text = (
            "module leaf { link in p : 2; link out q : 2; } "
            "module top { link in i : 2; link out o : 2; link own w : 2;"
            "use u = leaf { tie q = w; tie p = i; } use v = leaf { tie p = w; tie q = o; } }"
        )
        flat = flat_of(text)
        self.assertEqual(flat[6], (
            ("set", "w.data", name("u.q.data")), ("set", "w.valid", name("u.q.valid")),
            ("set", "u.q.ready", name("w.ready")),
            ("set", "u.p.data", name("i.data")), ("set", "u.p.valid", name("i.valid")),
            ("set", "i.ready", name("u.p.ready")),
            ("set", "v.p.data", name("w.data")), ("set", "v.p.valid", name("w.valid")),
            ("set", "w.ready", name("v.p.ready")),
            ("set", "o.data", name("v.q.data")), ("set", "o.valid", name("v.q.valid")),
            ("set", "v.q.ready", name("o.ready")),
        ))
        self.assertEqual([row[0] for row in flat[3]][:9], [
            "i.ready", "o.data", "o.valid", "w.data", "w.valid", "w.ready", "u.p.data", "u.p.valid", "u.p.ready",
        ])

    def test_ties_within_used_modules(self):
        text = (
            "module leaf { link in p : 2; link out q : 2; } "
            "module mid { link in p : 2; link out q : 2; use u = leaf { tie p = p; tie q = q; } } "
            "module top { link own a : 2; link own b : 2; use m = mid { tie p = a; tie q = b; } }"
        )
        self.assertEqual(flat_of(text)[6][6:8], (
            ("set", "m.u.p.data", name("m.p.data")), ("set", "m.u.p.valid", name("m.p.valid")),
        ))

    def test_unused_modules_are_not_looked_at(self):
        text = "module bad(a, a) { wire x : 99; use u = none { } set y = z; } module top { wire w : 1; }"
        self.assertEqual(flat_of(text)[3], (("w", 1),))

    def test_same_names_in_modules(self):
        text = "module a { wire a : 1; } module top { use a = a { } wire b : 1; states a@1 { a, b } }"
        self.assertEqual([row[0] for row in flat_of(text)[3]], ["a.a", "b"])

    def test_nothing_is_changed(self):
        design = read_design(self.LEAF + "module top { input x : 1; use u = leaf(1) { a = x; } }")
        self.assertEqual(flatten(design), flatten(design))
        self.assertEqual(flatten(design, ()), flatten(design, numbers=()))

    def test_deep_chains(self):
        nest = "for k in 0 .. 1 { " * 20
        text = "module m0 { wire x : 1; } "
        for at in range(1, 8):
            text += f"module m{at} {{ {nest} use u = m{at - 1} {{ }} {'} ' * 20} }} "
        self.assertEqual(flat_of(text)[3], (("u." * 7 + "x", 1),))


if __name__ == "__main__":
    unittest.main()
