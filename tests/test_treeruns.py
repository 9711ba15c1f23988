"""Runs of designs by their trees, which show what the flat designs show."""
import unittest

from beatfabric.beats import FlatRun
from beatfabric.check import check
from beatfabric.flatten import flatten
from beatfabric.reading import read_design
from beatfabric.treeruns import DesignRun
from tests.designs import Maker, rows_for

BUFFER = (
    "module buffer(w) { link in p : w; link out q : w; reg d : w = 0; reg full : 1 = 0;"
    "give q = d when full; take p when ~full | q.moves;"
    "if p.moves { set d = p.data; set full = word(1, 1); }"
    "else { if q.moves { set full = word(0, 1); } } claim some = full; }"
)


class DesignRunTest(unittest.TestCase):
    def same(self, text, numbers=(), many=12, seed=1):
        """Runs a design by its tree and flat; returns what is shown."""
        design = read_design(text)
        flat = flatten(design, numbers)
        check(flat)
        rows = rows_for(flat[1], many, seed)
        shown = list(DesignRun(design, numbers).beats(rows))
        self.assertEqual(shown, list(FlatRun(flat).beats(rows)))
        return shown

    def test_counter(self):
        text = "module c { input en : 1; output n : 2; reg r : 2 = 0 when en; set r = r + word(1, 2); set n = r; }"
        run = DesignRun(read_design(text))
        self.assertEqual([run.beat((bit,)) for bit in (1, 1, 0, 1, 1)], [(0,), (1,), (2,), (2,), (3,)])

    def test_used_modules_have_registers_of_their_own(self):
        text = (
            "module count(k) { input en : 1; output n : 4; reg r : 4 = k when en; set r = r + word(1, 4); set n = r; }"
            "module top(k) { input a : 1; input b : 1; output x : 4; output y : 4;"
            "use u@0 = count(k) { en = a; } use u@1 = count(k + 1) { en = b & u@0.n == word(4, 4); }"
            "set y = u@1.n; set x = u@0.n; }"
        )
        run = DesignRun(read_design(text), (3,))
        rows = ((1, 1), (1, 1), (0, 1), (1, 0))
        self.assertEqual(list(run.beats(rows)), [(3, 4), (4, 4), (5, 5), (5, 5)])
        self.same(text, (3,))

    def test_memories_of_their_own(self):
        text = (
            "module store { input a : 2; input d : 3; input on : 1; output y : 3; mem q : 3 [ 3 ];"
            "set y = q[a]; if on { write q[a] = d; } }"
            "module top { input a : 2; input d : 3; input on : 1; output y : 3; output z : 3;"
            "use u = store { a = a; d = d; on = on; } use v = store { a = a; d = u.y; on = word(1, 1); }"
            "set y = u.y; set z = v.y; }"
        )
        run = DesignRun(read_design(text))
        rows = ((0, 5, 1), (0, 6, 0), (0, 6, 0), (3, 7, 1), (3, 7, 1))
        self.assertEqual(list(run.beats(rows)), [(0, 0), (5, 0), (5, 5), (0, 0), (0, 0)])
        self.same(text, many=40)

    def test_inputs_hang_on_outputs_of_the_same_module(self):
        text = (
            "module swap { input a : 4; input b : 4; output x : 4; output y : 4; set x = ~a; set y = b + word(1, 4); }"
            "module top { input i : 4; output o : 4; use u = swap { a = u.y; b = i; } set o = u.x; }"
        )
        self.assertEqual(self.same(text), [((15 - (i + 1)) % 16,) for (i,) in rows_for((("i", 4),), 12, 1)])

    def test_links(self):
        text = BUFFER + (
            "module top { link in i : 4; link out o : 4; link own m@0 : 4;"
            "use a = buffer(4) { tie p = i; tie q = m@0; } use b = buffer(4) { tie q = o; tie p = m@0; } }"
        )
        run = DesignRun(read_design(text))
        rows = ((7, 1, 0), (8, 1, 0), (9, 1, 0), (9, 0, 1), (9, 0, 1), (0, 0, 1))
        self.assertEqual(list(run.beats(rows)), [
            (1, 0, 0, 0, 0), (1, 0, 0, 1, 0), (0, 7, 1, 1, 1), (1, 7, 1, 1, 1), (1, 8, 1, 0, 1), (1, 8, 0, 0, 0),
        ])
        self.same(text, many=60)

    def test_links_through_modules(self):
        text = BUFFER + (
            "module pair(w) { link in p : w; link out q : w; link own m : w;"
            "use a = buffer(w) { tie p = p; tie q = m; } use b = buffer(w) { tie p = m; tie q = q; } }"
            "module top(w) { input d : w; input on : 1; link out o : w; link own s : w;"
            "give s = d when on & ~(d == word(0, w)); use x = pair(w) { tie p = s; tie q = o; } claim c = ~s.moves; }"
        )
        self.same(text, (3,), many=60)

    def test_order_of_what_is_shown(self):
        text = (
            "module leaf { input a : 1; claim c@0 = a; claim c@1 = ~a; }"
            "module mid { input a : 1; claim c = a; use u = leaf { a = ~a; } claim d = ~a; }"
            "module top { output y : 2; input i : 1; claim e = i; use v = mid { a = i; } claim f = ~i;"
            "link out l : 1; set y = word(2, 2); give l = i; output z : 1; set z = i; }"
        )
        self.assertEqual(DesignRun(read_design(text)).beat((1, 0)), (2, 1, 1, 1, 1, 1, 0, 1, 0, 0))
        self.same(text)

    def test_copies_and_states(self):
        text = (
            "module m(n) { input i : 3; output y : 3; states s { a, b, c } wire w@0 : 3; set w@0 = i;"
            "for k in 1 .. n { wire w@k : 3; set w@k = w@(k - 1) + word(k, 3); }"
            "case i { at 0, 1 { go s to b; } at 2 { if s is b { go s to c; } } else { go s to a; } }"
            "if s is c { set y = word(7, 3); for k in 0 .. n { if i == word(k, 3) { set y = w@k; } } }"
            "else { set y = wide(s, 3); } }"
        )
        self.same(text, (4,), many=80)

    def test_hidden_parameters(self):
        text = (
            "module m(k) { output y : 8; reg r : 8 = k; wire w@k : 8;"
            "for k in k .. k + 1 { for k in k + 1 .. k + 2 { set w@(k - 1) = word(k, 8); } } set y = w@k + r; }"
        )
        self.assertEqual(self.same(text, (5,), many=1), [(11,)])

    def test_long_chains(self):
        text = (
            "module m { input i : 8; output y : 8; wire w@0 : 8; set w@0 = i; set y = w@98;"
            "for k in 0 .. 98 { wire w@(98 - k) : 8; set w@(98 - k) = w@(97 - k) + word(1, 8); } }"
        )
        run = DesignRun(read_design(text))
        self.assertEqual(run.beat((3,)), (101,))
        self.same(text, many=3)

    def test_two_runs_do_not_meet(self):
        text = "module c { input a : 4; output n : 4; reg r : 4 = 0; set r = r + a; set n = r; }"
        design = read_design(text)
        first, second = DesignRun(design), DesignRun(design)
        self.assertEqual(list(first.beats([(1,), (1,)])), [(0,), (1,)])
        self.assertEqual(second.beat((5,)), (0,))
        self.assertEqual(first.beat((0,)), (2,))
        self.assertEqual(second.beat((0,)), (5,))

    def test_beats_are_done_when_asked_for(self):
        text = "module c { input a : 4; output n : 4; reg r : 4 = 0; set r = r + a; set n = r; }"
        run = DesignRun(read_design(text))
        shown = run.beats(((1,), (2,), (4,)))
        self.assertEqual(next(shown), (0,))
        self.assertEqual(run.beat((8,)), (1,))
        self.assertEqual(list(shown), [(9,), (11,)])

    def test_no_state(self):
        self.assertFalse(hasattr(DesignRun, "state"))
        self.assertFalse(hasattr(DesignRun, "resume"))

    def test_random_designs(self):
        for seed in range(60):
            maker = Maker(seed)
            flat = flatten(maker.design(), maker.numbers())
            rows = rows_for(flat[1], 8, seed)
            run = DesignRun(maker.design(), maker.numbers())
            self.assertEqual(list(run.beats(rows)), list(FlatRun(flat).beats(rows)), seed)


if __name__ == "__main__":
    unittest.main()
