"""The faults that flattening finds, in the order told."""
import unittest

from beatfabric.errors import BadNumber, BadUse, TooLarge, Twice, Unknown
from beatfabric.flatten import flatten
from beatfabric.reading import read_design

LEAF = "module leaf(w) { input a : w; output y : w; wire z : w; link in p : 1; link out q : 1; link own o : 1; } "
PORT = "module port { input a : 1; input b : 1; } "
PIPE = "module pipe { link in p : 1; link out q : 1; } "


class FaultTest(unittest.TestCase):
    def fault(self, kind, argument, text, numbers=()):
        with self.assertRaises(kind) as caught:
            flatten(read_design(text), numbers)
        self.assertIs(type(caught.exception), kind)
        self.assertEqual(list(vars(caught.exception).values()), [argument])

    def top(self, kind, argument, text, ahead=""):
        self.fault(kind, argument, ahead + "module top { " + text + " }")


class ModulesTest(FaultTest):
    def test_names_of_modules(self):
        self.fault(Twice, "a", "module a { } module b { } module a { } module b { }")
        self.fault(Twice, "b", "module a { } module b { } module b { } module a { }")

    def test_modules_come_first(self):
        self.fault(Twice, "a", "module a { } module a(n) { wire x : 99; }")


class DeclaringTest(FaultTest):
    def test_numbers_of_the_top(self):
        self.fault(BadUse, "", "module m(a) { }")
        self.fault(BadUse, "", "module m { }", (1,))
        self.fault(BadUse, "", "module m(a, a) { }", (1,))
        self.fault(Twice, "b", "module m(a, b, b, a) { wire x : 0; }", (1, 2, 3, 4))

    def test_widths(self):
        for word in ("input", "output", "wire", "link in", "link out", "link own"):
            self.top(BadNumber, 0, f"{word} x : 0;")
            self.top(BadNumber, 9, f"{word} x : 9;")
            self.top(BadNumber, 256, f"{word} x : 255 + 1;")
            self.top(BadNumber, -1, f"{word} x : 0 - 1;")
        self.top(BadNumber, 0, "reg r : 0 = 0;")
        self.top(BadNumber, 9, "mem q : 9 [ 1 ];")

    def test_starts(self):
        self.top(BadNumber, 2, "reg r : 1 = 2;")
        self.top(BadNumber, 4, "reg r : 2 = 4;")
        self.top(BadNumber, 256, "reg r : 8 = 255 + 1;")
        self.top(BadNumber, 9, "reg r : 9 = 255 + 1;")
        flatten(read_design("module m { reg r : 8 = 255; reg s : 1 = 1; }"))

    def test_sizes(self):
        self.top(BadNumber, 0, "mem q : 1 [ 0 ];")
        self.top(BadNumber, 9, "mem q : 8 [ 9 ];")
        flatten(read_design("module m { mem q : 8 [ 8 ]; mem p : 1 [ 1 ]; }"))

    def test_states(self):
        names = [f"n{at}" for at in range(17)]
        self.top(BadNumber, 17, "states s { " + ", ".join(names) + " }")
        self.top(BadNumber, 18, "states s { " + ", ".join(names + ["n0"]) + " }")
        self.top(Twice, "b", "states s { a, b, c, b, a }")
        self.assertEqual(len(flatten(read_design("module m { states s { " + ", ".join(names[:16]) + " } }"))[4]), 1)

    def test_indexes(self):
        self.top(Unknown, "k", "wire x@k : 0;")
        self.top(BadNumber, -2, "wire x@(1 - 3) : 0;")
        self.top(Unknown, "k", "reg r@k : 0 = 0;")
        self.top(Unknown, "k", "use u@k = none { }")
        self.top(Unknown, "k", "states s@k { a, a }")

    def test_unknown_parameters(self):
        self.top(Unknown, "k", "wire x : k;")
        self.top(Unknown, "k", "reg r : 1 = k;")
        self.top(Unknown, "k", "mem q : 1 [ k ];")
        self.top(Unknown, "k", "link in l : k;")
        self.top(Unknown, "k", "for k in 0 .. 2 { } wire x : k;")
        self.top(Unknown, "w", "use u = leaf(w) { }", LEAF)

    def test_declared_twice(self):
        for first in ("wire x : 1;", "reg x : 1 = 0;", "mem x : 1 [ 1 ];", "states x { a }", "link own x : 1;",
                      "input x : 1;", "output x : 1;", "use x = port { a = y; b = y; }"):
            for second in ("wire x : 1;", "reg x : 1 = 0;", "mem x : 1 [ 1 ];", "states x { a }", "link in x : 1;",
                           "input x : 1;", "output x : 1;", "use x = port { a = y; b = y; }"):
                self.top(Twice, "x", "wire y : 1; " + first + second, PORT)
        self.top(Twice, "x@1", "for k in 0 .. 2 { wire x@1 : 1; }")
        self.top(Twice, "x", "wire x@1 : 1; wire x : 1; wire x : 1;")
        self.fault(Twice, "u.x", "module a { wire x : 1; wire x : 1; } module top { use u = a { } }")

    def test_twice_comes_last(self):
        self.top(BadNumber, 9, "wire x : 1; wire x : 9;")
        self.top(BadNumber, 2, "wire x : 1; reg x : 1 = 2;")
        self.top(BadNumber, 0, "wire x : 1; mem x : 1 [ 0 ];")
        self.top(Twice, "a", "wire x : 1; states x { a, a }")
        self.top(Unknown, "none", "wire x : 1; use x = none { }")
        self.top(BadNumber, -1, "wire x : 1; use x = leaf(0 - 1) { }", LEAF)

    def test_consts_in_order(self):
        self.top(BadNumber, 0, "reg r : 0 = 255 + 1;")
        self.top(BadNumber, 9, "mem q : 9 [ 0 ];")
        self.top(Unknown, "j", "wire x@j : k;")
        self.top(Unknown, "j", "for i in j .. k { }")
        self.top(Unknown, "k", "for i in 0 .. k { wire x : 0; }")
        self.top(BadNumber, -1, "for i in 0 - 1 .. k { }")

    def test_used_modules(self):
        self.top(Unknown, "none", "use u = none { }")
        self.top(Unknown, "top", "use u = top { }")
        self.fault(Unknown, "b", "module a { use u = b { } } module b { } module c { use v = a { } }")
        self.fault(Unknown, "none", "module a { use u = none { } } module c { use v = a { } }")
        self.top(Unknown, "none", "use u = none(k) { }")
        self.top(Unknown, "k", "use u = leaf(0 + k) { }", LEAF)

    def test_numbers_of_used_modules(self):
        self.top(BadUse, "u", "use u = leaf { }", LEAF)
        self.top(BadUse, "u@2", "use u@2 = leaf(1, 2) { }", LEAF)
        self.top(BadUse, "u", "use u = leaf { }", "module leaf(a, a) { } ")
        self.top(Twice, "a", "use u = leaf(1, 2) { }", "module leaf(a, a) { wire x : 99; } ")
        self.top(Twice, "u", "wire u : 1; use u = leaf { }", LEAF)
        self.fault(BadUse, "v.u", LEAF + "module mid { use u = leaf { } } module top { use v = mid { } }")

    def test_used_modules_are_walked_in_their_place(self):
        bad = "module bad { wire x : 9; } "
        self.top(BadNumber, 9, "use u = bad { } wire y : 0;", bad)
        self.top(BadNumber, 0, "wire y : 0; use u = bad { }", bad)
        self.fault(BadNumber, 8 + 1, "module leaf(w) { wire x : w; } module top { use u = leaf(9) { } }")

    def test_declaring_comes_ahead_of_stating(self):
        self.top(BadNumber, 0, "set x = y; wire z : 0;")
        self.top(BadNumber, 0, "use u = port { a = zz; } wire z : 0;", PORT)
        self.top(Unknown, "k", "reg r : 1 = 0 when zz; for i in 0 .. k { }")


class PlacesTest(FaultTest):
    DECLARED = (
        "input i : 1; output o : 1; wire w : 1; reg r : 1 = 0; mem m : 1 [ 1 ]; states s { a }"
        "link in li : 1; link out lo : 1; link own lw : 1; use u = port { a = i; b = i; } "
    )
    NAMES = ("i", "o", "w", "r", "m", "s", "li", "lo", "lw", "u")

    def allowed(self, pattern, names):
        """The pattern lets these names only; all others are bad uses, and one that is not there unknown."""
        for name in self.NAMES:
            text = pattern.replace("X", name)
            if name in names:
                flatten(read_design(PORT + "module top { " + self.DECLARED + text + " }"))
            else:
                self.top(BadUse, name, self.DECLARED + text, PORT)
        self.top(Unknown, "nn", self.DECLARED + pattern.replace("X", "nn"), PORT)
        self.top(Unknown, "k", self.DECLARED + pattern.replace("X", "i@k"), PORT)
        self.top(Unknown, "i@0", self.DECLARED + pattern.replace("X", "i@0"), PORT)

    def test_set(self):
        self.allowed("set X = i;", ("o", "w", "r"))

    def test_write_and_read(self):
        self.allowed("write X[i] = i;", ("m",))
        self.allowed("set w = X[i];", ("m",))

    def test_go_and_is(self):
        self.allowed("go X to a;", ("s",))
        self.allowed("set w = X is a;", ("s",))
        self.top(Unknown, "b", self.DECLARED + "go s to b;", PORT)
        self.top(Unknown, "b", self.DECLARED + "set w = s is b;", PORT)
        self.fault(Unknown, "b", "module x { states s { a } go s to b; } module top { use v = x { } }")

    def test_give_and_take(self):
        self.allowed("give X = i;", ("lo", "lw"))
        self.allowed("take X;", ("li", "lw"))

    def test_names_in_exprs(self):
        self.allowed("set w = X;", ("i", "o", "w", "r", "s"))

    def test_dots(self):
        for name in ("i", "o", "w", "r", "m", "s"):
            self.top(BadUse, name, self.DECLARED + f"set w = {name}.data;", PORT)
        self.top(Unknown, "nn", self.DECLARED + "set w = nn.data@k;", PORT)
        self.top(BadUse, "w", self.DECLARED + "set w = w.data@k;", PORT)
        for name in ("li", "lo", "lw"):
            for part in ("data", "valid", "ready", "moves"):
                flatten(read_design(PORT + "module top { " + self.DECLARED + f"set w = {name}.{part}; }}"))
                self.top(Unknown, f"{name}.{part}@0", self.DECLARED + f"set w = {name}.{part}@0;", PORT)
            self.top(Unknown, f"{name}.x", self.DECLARED + f"set w = {name}.x;", PORT)
            self.top(Unknown, "k", self.DECLARED + f"set w = {name}.x@k;", PORT)

    def test_dots_of_used_modules(self):
        ahead = LEAF + PIPE
        use = "wire w : 1; link own l : 1; use u@1 = leaf(1) { a = w; tie p = l; tie q = l; } "
        flatten(read_design(ahead + "module top { " + use + "set w = u@1.y; }"))
        for name in ("a", "z", "p", "o"):
            self.top(BadUse, f"u@1.{name}", use + f"set w = u@1.{name};", ahead)
        self.top(Unknown, "u@1.n", use + "set w = u@1.n;", ahead)
        self.top(Unknown, "u@1.y@0", use + "set w = u@1.y@0;", ahead)
        self.top(Unknown, "u@1.data", use + "set w = u@1.data;", ahead)
        self.top(Unknown, "k", use + "set w = u@1.y@k;", ahead)

    def test_outputs_directly_in_the_module(self):
        text = (
            "module leaf { output y : 1; } module mid { use v = leaf { } wire z : 1; set z = v.y; } "
            "module top { use u = mid { } wire w : 1; set w = u.v; }"
        )
        self.fault(BadUse, "u.v", text)

    def test_only_names_of_this_module(self):
        self.fault(Unknown, "u.w", "module a { wire x : 1; set x = w; } module top { wire w : 1; use u = a { } }")
        self.fault(Unknown, "a", PORT + "module top { wire w : 1; use u = port { a = w; b = w; } set a = w; }")

    def test_full_names_are_told(self):
        inner = "module a { wire x@1 : 1; %s } module b { use v = a { } } module top { use u@3 = b { } }"
        self.fault(Unknown, "u@3.v.y", inner.replace("%s", "set y = x@1;"))
        self.fault(BadUse, "u@3.v.x@1", inner.replace("%s", "take x@1;"))
        self.fault(Twice, "u@3.v.x@1", inner.replace("%s", "claim x@1 = x@1;"))
        self.fault(Unknown, "none", inner.replace("%s", "use w = none { }"))


class StatingTest(FaultTest):
    def test_widths_of_consts(self):
        for bad in (0, 9):
            self.top(BadNumber, bad, f"wire x : 1; set x = word(0, {bad});")
            self.top(BadNumber, bad, f"wire x : 1; set x = wide(x, {bad});")
            self.top(BadNumber, bad, f"wire x : 1; set x = sign(x, {bad});")
        self.top(BadNumber, 2, "wire x : 1; set x = word(2, 1);")
        self.top(BadNumber, 256, "wire x : 1; set x = word(255 + 1, 8);")
        flatten(read_design("module m { wire x : 8; set x = word(255, 8); claim c = word(1, 1); }"))

    def test_order_in_words(self):
        self.top(BadNumber, 9, "wire x : 1; set x = word(255, 9);")
        self.top(Unknown, "k", "wire x : 1; set x = word(2, k);")
        self.top(BadNumber, 256, "wire x : 1; set x = word(255 + 1, k);")
        self.top(Unknown, "k", "wire x : 1; set x = word(k, 0);")
        self.top(Unknown, "y", "wire x : 1; set x = wide(y, 9);")
        self.top(Unknown, "j", "wire x : 1; set x = bits(x, j, k);")
        self.top(Unknown, "y", "wire x : 1; set x = bits(y, j, k);")

    def test_from_left_to_right(self):
        self.top(Unknown, "x", "set x = y;")
        self.top(Unknown, "y", "wire x : 1; set x = y | z;")
        self.top(BadUse, "x", "input x : 1; set x = y;")
        self.top(Unknown, "q", "write q[a] = b;")
        self.top(Unknown, "a", "mem q : 1 [ 1 ]; write q[a] = b;")
        self.top(Unknown, "s", "go s to x;")
        self.top(Unknown, "e", "link own l : 1; give l = e when c;")
        self.top(Unknown, "c", "link own l : 1; wire e : 1; give l = e when c;")
        self.top(Unknown, "c", "link own l : 1; take l when c;")
        self.top(Unknown, "b", "wire a : 1; claim c = pick(a, b, d);")
        self.top(Unknown, "a", "if a { set b = c; } else { set d = e; }")
        self.top(Unknown, "b", "wire a : 1; if a { set b = c; } else { set d = e; }")
        self.top(Unknown, "d", "wire a : 1; if a { } else { set d = e; }")

    def test_cases(self):
        self.top(Unknown, "a", "case a { at k { set b = c; } }")
        self.top(Unknown, "k", "wire a : 1; case a { at 0, k, j { set b = c; } at i { } }")
        self.top(Unknown, "b", "wire a : 1; case a { at 0 { set b = c; } at k { } }")
        self.top(Unknown, "k", "wire a : 1; case a { at 0 { } at k { } else { set b = c; } }")
        self.top(BadNumber, 256, "wire a : 1; case a { at 255 + 1 { } }")
        flatten(read_design("module m { wire a : 1; case a { at 255 { } at 0, 0 { } } }"))

    def test_copies_of_statements(self):
        self.top(Unknown, "j", "wire a : 1; if a { for i in j .. k { set b = a; } }")
        self.top(Unknown, "b@1", "wire a : 1; wire b@0 : 1; if a { for i in 0 .. 3 { set b@i = a; } }")
        self.top(Unknown, "i", "wire a@0 : 1; if a@0 { for i in 0 .. 1 { set a@i = a@0; } set a@i = a@0; }")

    def test_registers(self):
        self.top(Unknown, "a", "reg r : 1 = 0 when a reset b; set c = d;")
        self.top(Unknown, "b", "wire a : 1; reg r : 1 = 0 when a reset b; set c = d;")
        self.top(Unknown, "c", "set c = d; reg r : 1 = 0 when a;")

    def test_claims(self):
        self.top(Twice, "w", "wire w : 1; claim w = zz;")
        self.top(Twice, "c", "wire w : 1; claim c = w; claim c = zz;")
        self.top(Twice, "w", "claim w = v; wire v : 1; wire w : 1;")
        self.top(Unknown, "k", "claim c@k = zz;")
        self.top(Unknown, "zz", "claim c = zz;")
        self.top(Unknown, "c", "wire w : 1; claim c = w; set w = c;")

    def test_walk_order(self):
        self.top(Unknown, "a", "set w = a; use u = port { a = b; } wire w : 1;", PORT)
        bad = "module bad { input a : 1; set zz = a; } "
        self.top(Unknown, "b", "use u = bad { a = b; } set yy = a;", bad)
        self.top(Unknown, "u.zz", "wire b : 1; use u = bad { a = b; } set yy = a;", bad)


class BindsTest(FaultTest):
    def test_binds(self):
        self.top(BadUse, "u.b", "wire w : 1; use u = port { a = w; }", PORT)
        self.top(BadUse, "u.a", "wire w : 1; use u = port { b = w; }", PORT)
        self.top(BadUse, "u.a", "wire w : 1; use u = port { a = w; a = w; b = w; }", PORT)
        self.top(BadUse, "u.c", "wire w : 1; use u = port { c = zz; a = w; b = w; }", PORT)
        self.top(BadUse, "u.a@0", "wire w : 1; use u = port { a@0 = zz; }", PORT)
        self.top(Unknown, "k", "wire w : 1; use u = port { a@k = zz; }", PORT)
        self.top(Unknown, "zz", "use u = port { a = zz; c = yy; }", PORT)
        self.top(BadUse, "u.a", "wire w : 1; use u = port { a = w; a = zz; b = w; }", PORT)

    def test_what_can_be_bound(self):
        for name in ("y", "z", "p", "q", "o"):
            self.top(BadUse, f"u.{name}", f"wire w : 1; use u = leaf(1) {{ {name} = w; }}", LEAF)

    def test_what_can_be_tied(self):
        for name in ("a", "y", "z", "o", "n"):
            self.top(BadUse, f"u.{name}", f"link own l : 1; use u = leaf(1) {{ tie {name} = l; }}", LEAF)

    def test_ports_without_a_bind(self):
        self.top(BadUse, "u.a", "use u = leaf(1) { }", LEAF)
        self.top(BadUse, "u.p", "wire w : 1; use u = leaf(1) { a = w; }", LEAF)
        self.top(BadUse, "u.q", "wire w : 1; link own l : 1; use u = leaf(1) { tie p = l; a = w; }", LEAF)
        self.top(BadUse, "u.b@1", "wire w : 1; use u = m { b@0 = w; }", "module m { for k in 0 .. 2 { input b@k : 1; } } ")

    def test_the_other_side_of_a_tie(self):
        links = "link in li : 1; link out lo : 1; link own lw : 1; wire w : 1; "
        for name in ("li", "lw"):
            self.top(BadUse, "u.q", links + f"use u = pipe {{ tie p = {name}; }}", PIPE)
        for name in ("lo", "lw"):
            self.top(BadUse, "u.p", links + f"use u = pipe {{ tie q = {name}; }}", PIPE)
        self.top(BadUse, "lo", links + "use u = pipe { tie p = lo; }", PIPE)
        self.top(BadUse, "li", links + "use u = pipe { tie q = li; }", PIPE)
        self.top(BadUse, "w", links + "use u = pipe { tie q = w; }", PIPE)
        self.top(BadUse, "w", links + "use u = pipe { tie p = w; }", PIPE)
        self.top(Unknown, "nn", links + "use u = pipe { tie p = nn; }", PIPE)
        self.top(Unknown, "k", links + "use u = pipe { tie p = li@k; }", PIPE)
        self.top(BadUse, "u.p", links + "use u = pipe { tie p = li; tie p = lo; }", PIPE)

    def test_links_of_the_using_module(self):
        inner = PIPE + "module mid { link in p : 1; use u = pipe { tie p = p; tie q = p; } } "
        self.fault(BadUse, "m.p", inner + "module top { link own l : 1; use m = mid { tie p = l; } }")


class CountTest(FaultTest):
    def many(self, many, text):
        flatten(read_design(f"module top {{ {text.replace('N', str(many))} }}"))

    def limit(self, most, text):
        """The text, with N for a number, is not too large up to a number, and too large from the next one on."""
        self.many(most, text)
        self.fault(TooLarge, "flat", f"module top {{ {text.replace('N', str(most + 1))} }}")

    def test_items(self):
        self.fault(TooLarge, "flat", "module m { " + "".join(f"wire w{at} : 1; " for at in range(401)) + "}")
        flatten(read_design("module m { " + "".join(f"wire w{at} : 1; " for at in range(400)) + "}"))

    def test_copies_count_in_both_walks(self):
        self.limit(200, "for k in 0 .. N { }")
        self.limit(133, "for k in 0 .. N { wire w@k : 1; } wire v : 1;")
        self.limit(100, "for k in 0 .. N { wire w@k : 1; set w@k = w@k; }")

    def test_copies_inside_count_once(self):
        self.limit(198, "wire w : 1; if w { for k in 0 .. N { } for j in 0 .. 200 { } }")
        self.limit(199, "wire w : 1; if w { for k in 0 .. N { set w = w; } }")

    def test_statements(self):
        rows = "set w = w; "
        flatten(read_design("module m { wire w : 1; " + rows * 399 + "}"))
        self.fault(TooLarge, "flat", "module m { wire w : 1; " + rows * 400 + "}")
        flatten(read_design("module m { wire w : 1; case w { at 0 { " + rows * 398 + "} at 1 { } } }"))
        self.fault(TooLarge, "flat", "module m { wire w : 1; case w { at 0 { " + rows * 399 + "} } }")

    def test_each_kind_counts(self):
        text = "wire w : 1; link own l : 1; reg r : 1 = 0; mem q : 1 [ 1 ]; states s { a } input i : 1; output o : 1; "
        rows = "give l = w; take l; claim c = w; if w { } case w { } write q[w] = w; go s to a; set w = w; "
        self.limit(400 - 7 - 8 - 200, text + rows + "if w { for k in 0 .. N { } for j in 0 .. 199 { } }")

    def test_uses_and_binds(self):
        text = "module p { input a : 1; wire x : 1; } module top { wire w : 1; for k in 0 .. N { use u@k = p { a = w; } } }"
        flatten(read_design(text.replace("N", "66")))
        self.fault(TooLarge, "flat", text.replace("N", "67"))

    def test_a_loop_of_loops(self):
        self.top(TooLarge, "flat", "for i in 0 .. 255 { for j in 0 .. 255 { for k in 0 .. 255 { } } }")
        self.fault(TooLarge, "flat", "module m { } " + "".join(
            f"module n{at} {{ for k in 0 .. 255 {{ use u@k = {'m' if at == 0 else f'n{at - 1}'} {{ }} }} }} "
            for at in range(7)))

    def test_counted_ahead_of_other_faults(self):
        rows = "".join(f"wire w{at} : 1; " for at in range(400))
        self.top(TooLarge, "flat", rows + "wire w0 : 99;")
        self.top(TooLarge, "flat", rows + "use u = none { }")
        self.top(TooLarge, "flat", rows + "for k in 0 .. 1 { wire w : 99; }")
        self.top(Unknown, "j", rows + "for k in 0 .. j { }")
        self.top(TooLarge, "flat", rows + "set zz = zz;")
        self.top(TooLarge, "flat", rows + "claim w0 = zz;")
        self.top(TooLarge, "flat", rows[rows.index("wire w1 "):] + "use u = port { c = zz; }", "module port { } ")

    def test_faults_ahead_of_the_count(self):
        rows = "".join(f"wire w{at} : 1; " for at in range(400))
        self.top(BadNumber, 99, "wire w0 : 99; " + rows)
        self.top(Unknown, "zz", rows + "for k in 0 .. 0 { } for k in zz .. 0 { }")


if __name__ == "__main__":
    unittest.main()
