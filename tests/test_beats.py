"""Runs of flat designs: beats, state, trial and tried."""
import unittest

from beatfabric.beats import FlatRun
from beatfabric.flatten import flatten
from beatfabric.reading import read_design
from tests.designs import Maker, rows_for

COUNTER = "input en : 1; output n : 2; reg r : 2 = 0 when en; set r = r + word(1, 2); set n = r;"


def run_of(items):
    return FlatRun(flatten(read_design("module m { " + items + " }")))


def shown(items, *rows):
    return list(run_of(items).beats(rows))


class BeatsTest(unittest.TestCase):
    def test_the_example(self):
        self.assertEqual(shown(COUNTER, (1,), (1,), (0,), (1,), (1,)), [(0,), (1,), (2,), (2,), (3,)])

    def test_nothing(self):
        run = run_of("")
        self.assertEqual(run.beat(()), ())
        self.assertEqual(run.state, ((), ()))

    def test_order_of_wires(self):
        items = "input a : 4; output y : 4; wire x : 4; set y = x + x; set x = a + word(1, 4);"
        self.assertEqual(shown(items, (3,), (15,)), [(8,), (0,)])

    def test_outputs_then_claims(self):
        items = "input a : 2; claim c = odd(a); output y : 2; claim d = all(a); output z : 1; set z = any(a); set y = a;"
        self.assertEqual(shown(items, (1,), (3,)), [(1, 1, 1, 0), (3, 1, 0, 1)])

    def test_the_last_set_counts(self):
        items = (
            "input a : 2; output y : 4; case a { at 0, 3 { set y = word(1, 4); if a == word(3, 2) { set y = word(2, 4); } }"
            "at 1 { if all(a) { set y = word(9, 4); } set y = word(3, 4); } else { set y = word(4, 4); } }"
        )
        self.assertEqual(shown(items, (0,), (1,), (2,), (3,)), [(1,), (3,), (4,), (2,)])

    def test_full_cases(self):
        items = "input a : 1; output y : 2; case a { at 1 { set y = word(2, 2); } at 0 { set y = word(1, 2); } }"
        self.assertEqual(shown(items, (0,), (1,)), [(1,), (2,)])

    def test_names_mean_the_word_of_this_beat(self):
        items = "output y : 1; output z : 1; input a : 1; if z { set y = word(0, 1); } else { set y = a; } set z = ~a;"
        self.assertEqual(shown(items, (0,), (1,)), [(0, 1), (1, 0)])

    def test_widths_one_and_eight(self):
        items = "input a : 1; input b : 8; output x : 1; output y : 8; set x = a + a; set y = b * b - b;"
        self.assertEqual(shown(items, (1, 255), (1, 16), (0, 200)), [(0, 2), (0, 240), (0, 120)])

    def test_shifts_beyond_the_width(self):
        items = "input a : 2; input b : 8; output x : 2; output y : 2; set x = a << b; set y = a >> b;"
        self.assertEqual(shown(items, (3, 0), (3, 1), (3, 2), (3, 255)), [(3, 3), (2, 1), (0, 0), (0, 0)])

    def test_exprs(self):
        exprs = {
            "~a": 250, "-a": 251, "a | b": 7, "a ^ b": 6, "a & b": 1, "a + b": 8, "a - b": 2, "b - a": 254, "a * b": 15,
            "a << b": 40, "a >> b": 0, "wide(a < b, 8)": 0, "wide(a <= a, 8)": 1, "wide(a == b, 8)": 0,
            "wide(a != b, 8)": 1, "pick(a < b, a, b)": 3, "join(bits(a, 2, 0), bits(b, 4, 0))": 163,
            "sign(bits(a, 2, 0), 8)": 253, "wide(odd(b), 8)": 0, "wide(any(a), 8)": 1, "wide(all(a), 8)": 0,
        }
        for text, word in exprs.items():
            self.assertEqual(shown(f"input a : 8; input b : 8; output y : 8; set y = {text};", (5, 3)), [(word,)], text)


class ContentsTest(unittest.TestCase):
    def test_when_and_reset(self):
        items = (
            "input w : 1; input s : 1; reg r : 4 = 9 when w reset s; reg p : 4 = 8 when w; reg q : 4 = 7 reset s;"
            "output x : 4; output y : 4; output z : 4; set x = r; set y = p; set z = q;"
            "set r = r + word(1, 4); set p = p + word(1, 4); set q = q + word(1, 4);"
        )
        self.assertEqual(shown(items, (1, 0), (0, 0), (1, 0), (1, 1), (0, 1), (0, 0)), [
            (9, 8, 7), (10, 9, 8), (10, 9, 9), (11, 10, 10), (9, 11, 7), (9, 11, 7),
        ])

    def test_a_register_that_no_set_reaches(self):
        items = "input a : 1; reg r : 4 = 5; output y : 4; set y = r; if a { set r = r + word(2, 4); }"
        self.assertEqual(shown(items, (0,), (1,), (0,), (0,)), [(5,), (5,), (7,), (7,)])
        self.assertEqual(shown("reg r : 2 = 3; output y : 2; set y = r;", (), ()), [(3,), (3,)])

    def test_reset_without_a_set(self):
        items = "input a : 1; input b : 1; reg r : 4 = 5 reset b; output y : 4; set y = r; if a { set r = word(1, 4); }"
        self.assertEqual(shown(items, (1, 0), (0, 1), (1, 1), (0, 0)), [(5,), (1,), (5,), (5,)])

    def test_the_last_set_of_a_register(self):
        items = (
            "input a : 1; reg r : 4 = 0; output y : 4; set y = r;"
            "if a { set r = word(1, 4); if ~a { set r = word(2, 4); } set r = r + word(3, 4); }"
        )
        self.assertEqual(shown(items, (1,), (1,), (0,), (0,)), [(0,), (3,), (6,), (6,)])

    def test_memories(self):
        items = "input a : 3; input d : 4; input on : 1; mem q : 4 [ 5 ]; output y : 4; set y = q[a]; if on { write q[a] = d; }"
        self.assertEqual(shown(items, (4, 9, 1), (4, 8, 0), (5, 7, 1), (5, 7, 1), (1, 0, 0), (4, 3, 1), (4, 0, 0)), [
            (0,), (9,), (0,), (0,), (0,), (9,), (3,),
        ])

    def test_an_address_that_does_not_exist(self):
        run = run_of("input a : 8; mem q : 2 [ 3 ]; output y : 2; set y = q[a]; write q[a] = word(3, 2);")
        self.assertEqual([run.beat((address,)) for address in (3, 255, 7)], [(0,)] * 3)
        self.assertEqual(run.state, ((), ((0, 0, 0),)))
        self.assertEqual(run.beat((2,)), (0,))
        self.assertEqual(run.state, ((), ((0, 0, 3),)))

    def test_several_writes_in_one_beat(self):
        items = (
            "input a : 1; mem q : 4 [ 2 ]; reg r : 4 = 1; set r = r + word(1, 4);"
            "if a { write q[a] = word(7, 4); write q[r] = r; write q[a] = r + word(4, 4); write q[r - r] = q[a]; }"
        )
        run = run_of(items)
        run.beat((1,))
        self.assertEqual(run.state, ((2,), ((0, 5),)))
        run.beat((1,))
        self.assertEqual(run.state, ((3,), ((5, 6),)))

    def test_all_contents_change_at_once(self):
        items = "reg a : 4 = 1; reg b : 4 = 2; set a = b; set b = a; output x : 4; output y : 4; set x = a; set y = b;"
        self.assertEqual(shown(items, (), (), ()), [(1, 2), (2, 1), (1, 2)])

    def test_state_machines(self):
        items = "input a : 1; states s { i, j, k } output y : 2; set y = s; if a { if s is i { go s to k; } else { go s to j; } }"
        self.assertEqual(shown(items, (0,), (1,), (1,), (0,)), [(0,), (0,), (2,), (1,)])


class StateTest(unittest.TestCase):
    ITEMS = (
        "input a : 2; reg r : 4 = 1; reg s : 2 = 0; mem q : 4 [ 2 ]; mem p : 1 [ 1 ]; output y : 4; output z : 4;"
        "set r = r + wide(a, 4); set s = a; write q[a] = r; write p[s] = odd(r); set y = r; set z = q[s];"
    )
    ROWS = ((1,), (3,), (0,), (2,), (1,), (1,))

    def test_state(self):
        run = run_of(self.ITEMS)
        self.assertEqual(run.state, ((1, 0), ((0, 0), (0,))))
        run.beat((1,))
        self.assertEqual(run.state, ((2, 1), ((0, 1), (1,))))

    def test_going_on_from_a_state(self):
        whole = list(run_of(self.ITEMS).beats(self.ROWS))
        first = run_of(self.ITEMS)
        list(first.beats(self.ROWS[:3]))
        kept = first.state
        for change in ("assign", "resume"):
            second = run_of(self.ITEMS)
            if change == "assign":
                second.state = kept
            else:
                self.assertIsNone(second.resume(kept))
            self.assertEqual(second.state, kept)
            self.assertEqual(list(second.beats(self.ROWS[3:])), whole[3:])
        self.assertEqual(first.state, kept)

    def test_trial(self):
        run = run_of(self.ITEMS)
        run.beat((1,))
        kept = run.state
        with run.trial() as held:
            self.assertIs(held, run)
            first = list(held.beats(self.ROWS))
            self.assertNotEqual(run.state, kept)
        self.assertEqual(run.state, kept)
        self.assertEqual(list(run.beats(self.ROWS)), first)

    def test_trial_behind_an_error(self):
        run = run_of(self.ITEMS)
        kept = run.state
        with self.assertRaises(KeyError):
            with run.trial():
                run.beat((2,))
                run.state = ((9, 9), ((9, 9), (9,)))
                raise KeyError("x")
        self.assertEqual(run.state, kept)

    def test_trials_in_trials(self):
        run = run_of(self.ITEMS)
        with run.trial() as outer:
            outer.beat((1,))
            kept = run.state
            with run.trial() as inner:
                inner.beat((1,))
                with run.trial():
                    run.resume(((0, 0), ((0, 0), (0,))))
            self.assertEqual(run.state, kept)
        self.assertEqual(run.state, ((1, 0), ((0, 0), (0,))))

    def test_the_state_when_the_block_is_entered(self):
        run = run_of(self.ITEMS)
        trial = run.trial()
        run.beat((1,))
        kept = run.state
        for _ in range(2):
            with trial:
                run.beat((2,))
            self.assertEqual(run.state, kept)

    def test_tried(self):
        run = run_of(self.ITEMS)
        run.beat((3,))
        kept = run.state
        told = run.tried(self.ROWS)
        self.assertEqual(run.state, kept)
        self.assertIsInstance(told, tuple)
        self.assertEqual(run.tried(list(self.ROWS)), told)
        self.assertEqual(tuple(run.beats(self.ROWS)), told)
        self.assertEqual(run.tried(()), ())

    def test_tried_behind_an_error(self):
        run = run_of(self.ITEMS)
        kept = run.state
        with self.assertRaises(Exception):
            run.tried([(1,), (2,), None])
        self.assertEqual(run.state, kept)

    def test_beats_are_done_when_asked_for(self):
        run = run_of(COUNTER)
        told = run.beats([(1,), (1,), (1,)])
        self.assertEqual(run.state, ((0,), ()))
        self.assertEqual(next(told), (0,))
        self.assertEqual(run.state, ((1,), ()))
        run.beat((1,))
        self.assertEqual(next(told), (2,))
        self.assertEqual(list(told), [(3,)])
        self.assertEqual(list(run.beats(())), [])

    def test_two_runs_do_not_meet(self):
        flat = flatten(read_design("module m { " + self.ITEMS + " }"))
        first, second = FlatRun(flat), FlatRun(flat)
        list(first.beats(self.ROWS))
        self.assertEqual(second.state, ((1, 0), ((0, 0), (0,))))
        self.assertEqual(flat, flatten(read_design("module m { " + self.ITEMS + " }")))

    def test_random_states(self):
        for seed in range(20):
            maker = Maker(seed)
            flat = flatten(maker.design(), maker.numbers())
            rows = rows_for(flat[1], 8, seed)
            run = FlatRun(flat)
            states = [run.state]
            told = []
            for row in rows:
                told.append(run.beat(row))
                states.append(run.state)
            for at in (5, 2, 7):
                run.state = states[at]
                self.assertEqual(run.beat(rows[at]), told[at])
                self.assertEqual(run.state, states[at + 1])


class LongTest(unittest.TestCase):
    def test_long_chains(self):
        items = "input a : 8; output y : 8; wire w@0 : 8; set w@0 = a; set y = w@98;"
        items += "for k in 0 .. 98 { wire w@(98 - k) : 8; set w@(98 - k) = w@(97 - k) + word(1, 8); }"
        self.assertEqual(shown(items, (0,), (200,)), [(98,), (42,)])

    def test_deep_exprs(self):
        expr = ("name", "a")
        for _ in range(96):
            expr = ("+", expr, ("word", 1, 8))
        flat = ("flat", (("a", 8),), (("y", 8),), (("y", 8),), (), (), (("set", "y", expr),), ())
        self.assertEqual(FlatRun(flat).beat((10,)), (106,))


if __name__ == "__main__":
    unittest.main()
