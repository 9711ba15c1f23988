"""Texts read as trees, and the first bad token of other texts."""
import random
import unittest

from beatfabric.errors import BadText
from beatfabric.reading import read_design
from tests.earley import RESERVED, bad_token, derived

WORDS = RESERVED + (
    "{ } ( ) [ ] , ; : . .. @ = == != < <= << >> ~ - + * & | ^ a b1 0 255 256 007 A abcdefgh abcdefghi > ! _ 1a"
).split()


def name(text, index=None):
    return ("name", (text, index))


def number(value):
    return ("int", value)


def items_of(text):
    """The items of the only module of a text."""
    return read_design("module m {" + text + "}")[0][3]


def expr_of(text):
    return items_of(f"set x = {text};")[0][2]


def told(text):
    """The number that BadText tells for a text, None if it is read."""
    try:
        read_design(text)
    except BadText as error:
        return error.at
    return None


class TreesTest(unittest.TestCase):
    def test_modules(self):
        self.assertEqual(read_design("module m { }"), (("module", "m", (), ()),))
        self.assertEqual(read_design("module m(a){}module n(a,b){}"),
                         (("module", "m", ("a",), ()), ("module", "n", ("a", "b"), ())))

    def test_ports(self):
        for word in ("input", "output", "wire"):
            self.assertEqual(items_of(f"{word} a : 8;"), ((word, ("a", None), number(8)),))

    def test_places(self):
        self.assertEqual(items_of("wire a@3:1;")[0][1], ("a", number(3)))
        self.assertEqual(items_of("wire a@k:1;")[0][1], ("a", ("param", "k")))
        self.assertEqual(items_of("wire a@(k+1):1;")[0][1], ("a", ("+", ("param", "k"), number(1))))
        self.assertEqual(items_of("wire a@((k)):1;")[0][1], ("a", ("param", "k")))

    def test_consts(self):
        def const(text):
            return items_of(f"wire a : {text};")[0][2]

        self.assertEqual(const("1+2*3"), ("+", number(1), ("*", number(2), number(3))))
        self.assertEqual(const("1-2-3"), ("-", ("-", number(1), number(2)), number(3)))
        self.assertEqual(const("1-(2-3)"), ("-", number(1), ("-", number(2), number(3))))
        self.assertEqual(const("2*3*n"), ("*", ("*", number(2), number(3)), ("param", "n")))
        self.assertEqual(const("(1+2)*3"), ("*", ("+", number(1), number(2)), number(3)))

    def test_registers(self):
        a = name("a")
        self.assertEqual(items_of("reg r : 2 = 0;"), (("reg", ("r", None), number(2), number(0), None, None),))
        self.assertEqual(items_of("reg r:2=0 when a;")[0][4:], (a, None))
        self.assertEqual(items_of("reg r:2=0 reset a;")[0][4:], (None, a))
        self.assertEqual(items_of("reg r:2=0 when a reset b;")[0][4:], (a, name("b")))

    def test_memories_states_links(self):
        self.assertEqual(items_of("mem q : 4 [ 8 ];"), (("mem", ("q", None), number(4), number(8)),))
        self.assertEqual(items_of("states s { a }"), (("states", ("s", None), ("a",)),))
        self.assertEqual(items_of("states s { a, b, a }"), (("states", ("s", None), ("a", "b", "a")),))
        for side in ("in", "out", "own"):
            self.assertEqual(items_of(f"link {side} l : 3;"), (("link", side, ("l", None), number(3)),))

    def test_uses(self):
        self.assertEqual(items_of("use u = m { }"), (("use", ("u", None), "m", (), ()),))
        self.assertEqual(items_of("use u@1 = m (1, n) { a = b; tie p = q@1; }"), ((
            "use", ("u", number(1)), "m", (number(1), ("param", "n")),
            (("bind", ("a", None), name("b")), ("tie", ("p", None), ("q", number(1)))),
        ),))

    def test_claims_give_take(self):
        self.assertEqual(items_of("claim c = a;"), (("claim", ("c", None), name("a")),))
        self.assertEqual(items_of("give l = a;"), (("give", ("l", None), name("a"), None),))
        self.assertEqual(items_of("give l = a when b;"), (("give", ("l", None), name("a"), name("b")),))
        self.assertEqual(items_of("take l;"), (("take", ("l", None), None),))
        self.assertEqual(items_of("take l when b;"), (("take", ("l", None), name("b")),))

    def test_for(self):
        tree = items_of("for k in 0 .. n { wire w@k : 1; if a { for j in k..2 { set x = b; } } }")[0]
        self.assertEqual(tree[:4], ("for", "k", number(0), ("param", "n")))
        self.assertEqual(tree[4][0], ("wire", ("w", ("param", "k")), number(1)))
        inner = ("for", "j", ("param", "k"), number(2), (("set", ("x", None), name("b")),))
        self.assertEqual(tree[4][1], ("if", name("a"), (inner,), ()))
        self.assertEqual(items_of("for k in 0..1 { }")[0][4], ())

    def test_statements(self):
        self.assertEqual(items_of("set x@1 = a;"), (("set", ("x", number(1)), name("a")),))
        self.assertEqual(items_of("write q[a] = b;"), (("write", ("q", None), name("a"), name("b")),))
        self.assertEqual(items_of("go s to idle;"), (("go", ("s", None), "idle"),))
        self.assertEqual(items_of("if a { }"), (("if", name("a"), (), ()),))
        self.assertEqual(items_of("if a { } else { }"), (("if", name("a"), (), ()),))
        go = ("go", ("s", None), "b")
        self.assertEqual(items_of("if a { } else { go s to b; }"), (("if", name("a"), (), (go,)),))

    def test_case(self):
        go = ("go", ("s", None), "b")
        self.assertEqual(items_of("case a { }"), (("case", name("a"), (), ()),))
        self.assertEqual(items_of("case a { else { go s to b; } }"), (("case", name("a"), (), (go,)),))
        tree = items_of("case a { at 0, n { go s to b; } at 1 + 1 { } else { go s to b; } }")[0]
        self.assertEqual(tree[2], (
            ((number(0), ("param", "n")), (go,)), ((("+", number(1), number(1)),), ()),
        ))
        self.assertEqual(tree[3], (go,))

    def test_exprs(self):
        self.assertEqual(expr_of("word(1, n)"), ("word", number(1), ("param", "n")))
        self.assertEqual(expr_of("a.b@1"), ("dot", ("a", None), ("b", number(1))))
        self.assertEqual(expr_of("a@1[b]"), ("read", ("a", number(1)), name("b")))
        self.assertEqual(expr_of("a is b"), ("is", ("a", None), "b"))
        self.assertEqual(expr_of("bits(a, 3, 1)"), ("bits", name("a"), number(3), number(1)))
        self.assertEqual(expr_of("join(a, b)"), ("join", name("a"), name("b")))
        self.assertEqual(expr_of("wide(a, 3)"), ("wide", name("a"), number(3)))
        self.assertEqual(expr_of("sign(a, 3)"), ("sign", name("a"), number(3)))
        for word in ("any", "all", "odd"):
            self.assertEqual(expr_of(f"{word}(a)"), (word, name("a")))
        self.assertEqual(expr_of("pick(a, b, c)"), ("pick", name("a"), name("b"), name("c")))
        self.assertEqual(expr_of("((a))"), name("a"))

    def test_signs_in_front(self):
        self.assertEqual(expr_of("~a"), ("not", name("a")))
        self.assertEqual(expr_of("-~-a"), ("neg", ("not", ("neg", name("a")))))
        self.assertEqual(expr_of("a - - b"), ("-", name("a"), ("neg", name("b"))))
        self.assertEqual(expr_of("~a * b"), ("*", ("not", name("a")), name("b")))
        self.assertEqual(expr_of("~(a * b)"), ("not", ("*", name("a"), name("b"))))

    def test_levels(self):
        levels = [("|",), ("^",), ("&",), ("==", "!=", "<", "<="), ("<<", ">>"), ("+", "-"), ("*",)]
        a, b, c = name("a"), name("b"), name("c")
        for at, loose_ones in enumerate(levels):
            for loose in loose_ones:
                for tight in [op for row in levels[at + 1:] for op in row]:
                    self.assertEqual(expr_of(f"a {loose} b {tight} c"), (loose, a, (tight, b, c)))
                    self.assertEqual(expr_of(f"a {tight} b {loose} c"), (loose, (tight, a, b), c))
                for other in loose_ones:
                    if at != 3:
                        self.assertEqual(expr_of(f"a {loose} b {other} c"), (other, (loose, a, b), c))

    def test_comparisons(self):
        a, b, c, d = name("a"), name("b"), name("c"), name("d")
        self.assertEqual(expr_of("(a == b) == c"), ("==", ("==", a, b), c))
        self.assertEqual(expr_of("a == (b < c)"), ("==", a, ("<", b, c)))
        self.assertEqual(expr_of("a == b & c < d"), ("&", ("==", a, b), ("<", c, d)))
        self.assertEqual(expr_of("a[b < c] == d"), ("==", ("read", ("a", None), ("<", b, c)), d))


class BadTextTest(unittest.TestCase):
    def test_not_complete(self):
        self.assertEqual(told(""), 0)
        self.assertEqual(told(" \n"), 0)
        self.assertEqual(told("module"), 1)
        self.assertEqual(told("module m { wire a : 1"), 7)
        self.assertEqual(told("module m { if a { }"), 7)

    def test_names(self):
        self.assertIsNone(told("module abcdefgh { }"))
        for bad in ("abcdefghi", "Ab", "aB", "1a", "a_b", "1", "module", "pick", "{", "_a"):
            self.assertEqual(told(f"module {bad} {{ }}"), 2 if bad == "a_b" else 1, bad)

    def test_reserved_words(self):
        for word in RESERVED:
            self.assertEqual(told(f"module m {{ wire {word} : 1; }}"), 4, word)
            self.assertIsNone(told(f"module m {{ wire {word}0 : 1; }}"))

    def test_numbers(self):
        for good in ("0", "1", "255", "10"):
            self.assertIsNone(told(f"module m {{ wire a : {good}; }}"))
        for bad in ("256", "00", "007", "1000", "9" * 5000, "1x"):
            self.assertEqual(told(f"module m {{ wire a : {bad}; }}"), 6, bad)

    def test_signs_that_fit_nowhere(self):
        for bad in "!>?_#":
            self.assertEqual(told(f"module m {{ set x = a {bad} b; }}"), 7)

    def test_at_most_eight_modules(self):
        one = "module m { } "
        self.assertIsNone(told(one * 8))
        self.assertEqual(told(one * 9), 32)
        self.assertEqual(told(one * 8 + "x"), 32)
        self.assertEqual(told(one + "wire"), 4)

    def test_comparisons_do_not_chain(self):
        self.assertEqual(told("module m { set x = a == b == c; }"), 9)
        self.assertEqual(told("module m { set x = a < b + c <= d; }"), 11)
        self.assertEqual(told("module m { set x = a == b | c == d != e; }"), 13)

    def test_where_words_stand(self):
        self.assertEqual(told("module m { else { } }"), 3)
        self.assertEqual(told("module m { if a { } else { wire b : 1; } }"), 9)
        self.assertEqual(told("module m { if a { claim c = b; } }"), 6)
        self.assertEqual(told("module m { if a { for k in 0 .. 1 { wire w : 1; } } }"), 13)
        self.assertEqual(told("module m { case a { else { } at 1 { } } }"), 9)
        self.assertEqual(told("module m { case a { at { } } }"), 7)
        self.assertEqual(told("module m { reg r : 1 = 0 reset a when b; }"), 11)
        self.assertEqual(told("module m { link l : 1; }"), 4)
        self.assertEqual(told("module m ( ) { }"), 3)
        self.assertEqual(told("module m { use u = n ( ) { } }"), 8)
        self.assertEqual(told("module m { states s { } }"), 6)
        self.assertEqual(told("module m { set x = a . b . c; }"), 9)
        self.assertEqual(told("module m { set x = a . b [ c ] ; }"), 9)
        self.assertEqual(told("module m { set x = 1; }"), 6)
        self.assertEqual(told("module m { wire a : - 1; }"), 6)
        self.assertEqual(told("module m { set x = bits(a, 1); }"), 11)

    def test_the_first_of_several(self):
        self.assertEqual(told("module m { wire 5 : ! ; }"), 4)
        self.assertEqual(told("module m { wire a ! 5 ; }"), 5)

    def test_deep_texts(self):
        deep = "(" * 27 + "a" + ")" * 27
        self.assertIsNone(told("module m { set x = " + deep + "; }"))
        self.assertEqual(told("module m { set x = " + deep[:-1] + "; }"), 6 + 27 + 1 + 26)
        signs = "~-" * 15
        tree = expr_of(signs + "a")
        for at in range(30):
            self.assertEqual(tree[0], "not" if at % 2 == 0 else "neg")
            tree = tree[1]
        self.assertEqual(told("module m { set x = " + (signs + "(") * 27 + " ; }"), 6 + 27 * 31)

    def test_deep_items(self):
        deep = "for k in 0 .. 1 { " * 14 + "if a { " * 14 + "set x = b; " + "} " * 28
        self.assertIsNone(told("module m { " + deep + "}"))
        deep = "if a { } else { case b { else { " * 14
        self.assertEqual(told("module m { " + deep), 3 + 14 * 11)
        levels = "a | a ^ a & a < a << a + a * ( "
        self.assertEqual(told("module m { set x = " + levels * 27), 6 + 27 * 15)

    def test_wide_texts(self):
        text = "module m { " + "set x = a + b; " * 280 + "}"
        self.assertEqual(len(read_design(text)[0][3]), 280)
        self.assertEqual(len(read_design("module m { set x = " + "a + " * 94 + "a; }")), 1)

    def test_against_the_grammar(self):
        for seed in range(150):
            source = random.Random(seed)
            tokens = derived(source, "D", source.randrange(6, 24))
            if len(tokens) > 220:
                continue
            self.assertIsNone(told(" ".join(tokens)))
            for _ in range(4):
                at = source.randrange(len(tokens))
                kind = source.randrange(4)
                rest = tokens[at + 1:] if kind < 2 else tokens[at:]
                changed = tokens[:at] + ([source.choice(WORDS)] if kind % 2 else []) + (rest if kind < 3 else [])
                self.assertEqual(told(" ".join(changed)), bad_token(changed), changed)


if __name__ == "__main__":
    unittest.main()
