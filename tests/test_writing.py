"""Trees written as texts: blanks, line feeds, parentheses, and the way back."""
import random
import unittest

from beatfabric.errors import BadText
from beatfabric.reading import read_design
from beatfabric.tokens import tokens_of
from beatfabric.writing import write_const, write_design, write_expr
from tests.designs import Maker
from tests.earley import derived


def name(text, index=None):
    return ("name", (text, index))


def number(value):
    return ("int", value)


A, B, C = name("a"), name("b"), name("c")


class DesignTest(unittest.TestCase):
    def test_layout(self):
        text = "module m(a,b){input x@a:1;if x@0{set y=x@(a+1);}else{}use u=n{}states s{i,j}}"
        self.assertEqual(
            write_design(read_design(text)),
            "module m ( a , b ) {\ninput x @ a : 1 ;\nif x @ 0 {\nset y = x @ ( a + 1 ) ;\n}\n"
            "use u = n {\n}\nstates s { i , j }\n}\n".replace("s { i , j }", "s {\ni , j }"),
        )

    def test_all_items(self):
        text = (
            "module m {\noutput a : 1 ;\nwire b : 1 ;\nreg r : 2 = 1 when a reset b ;\nreg s : 2 = 1 ;\n"
            "mem q : 2 [ 3 ] ;\nlink own l : 2 ;\nuse u = n ( 1 , k ) {\np = a ;\ntie l = l ;\n}\n"
            "claim c = a ;\ngive l = r when a ;\ngive l = r ;\ntake l ;\ntake l when a ;\n"
            "for k in 0 .. 2 {\nset a = b ;\n}\n"
            "if a {\n}\nelse {\nset a = b ;\n}\n"
            "case r {\nat 0 , 1 {\nwrite q [ r ] = r ;\n}\nat k + 1 {\n}\nelse {\ngo s to x ;\n}\n}\ncase r {\n}\n}\n"
        )
        self.assertEqual(write_design(read_design(text)), text)

    def test_several_modules(self):
        self.assertEqual(write_design(read_design("module a{}module b{}")), "module a {\n}\nmodule b {\n}\n")

    def test_empty_else(self):
        tree = read_design("module m { if a { set x = b; } else { } case a { at 0 { } else { } } }")
        self.assertNotIn("else", write_design(tree))
        self.assertEqual(read_design(write_design(tree)), tree)

    def test_random_designs(self):
        for seed in range(30):
            tree = Maker(seed).design()
            text = write_design(tree)
            self.assertEqual(read_design(text), tree)
            self.assertTrue(text.endswith("}\n"))

    def test_random_texts(self):
        for seed in range(200):
            source = random.Random(seed)
            tree = read_design(" ".join(derived(source, "D", source.randrange(8, 24))))
            text = write_design(tree)
            self.assertEqual(read_design(text), tree)
            self.assertEqual(write_design(read_design(text)), text)
            words = text.replace("\n", "\n ").split(" ")
            for word in words[:-1]:
                self.assertEqual(word.endswith("\n"), word[0] in "{};", word)
                self.assertEqual(len(tokens_of(word)), 1)


class ExprTest(unittest.TestCase):
    def test_parts(self):
        self.assertEqual(write_expr(A), "a")
        self.assertEqual(write_expr(name("a", number(3))), "a @ 3")
        self.assertEqual(write_expr(name("a", ("param", "k"))), "a @ k")
        self.assertEqual(write_expr(name("a", ("*", ("param", "k"), number(2)))), "a @ ( k * 2 )")
        self.assertEqual(write_expr(("word", ("+", number(1), number(2)), number(3))), "word ( 1 + 2 , 3 )")
        self.assertEqual(write_expr(("dot", ("a", number(1)), ("b", None))), "a @ 1 . b")
        self.assertEqual(write_expr(("read", ("a", None), ("+", A, B))), "a [ a + b ]")
        self.assertEqual(write_expr(("is", ("a", None), "b")), "a is b")
        self.assertEqual(write_expr(("bits", ("|", A, B), number(2), number(0))), "bits ( a | b , 2 , 0 )")
        self.assertEqual(write_expr(("pick", A, B, ("not", C))), "pick ( a , b , ~ c )")
        self.assertEqual(write_expr(("wide", A, number(3))), "wide ( a , 3 )")
        self.assertEqual(write_expr(("odd", A)), "odd ( a )")

    def test_parentheses(self):
        self.assertEqual(write_expr(("&", ("|", A, B), C)), "( a | b ) & c")
        self.assertEqual(write_expr(("|", ("&", A, B), C)), "a & b | c")
        self.assertEqual(write_expr(("-", ("-", A, B), C)), "a - b - c")
        self.assertEqual(write_expr(("-", A, ("-", B, C))), "a - ( b - c )")
        self.assertEqual(write_expr(("+", A, ("+", B, C))), "a + ( b + c )")
        self.assertEqual(write_expr(("==", ("==", A, B), C)), "( a == b ) == c")
        self.assertEqual(write_expr(("<", A, ("!=", B, C))), "a < ( b != c )")
        self.assertEqual(write_expr(("not", ("*", A, B))), "~ ( a * b )")
        self.assertEqual(write_expr(("*", ("not", A), ("neg", B))), "~ a * - b")
        self.assertEqual(write_expr(("neg", ("neg", A))), "- - a")
        self.assertEqual(write_expr(("-", A, ("neg", B))), "a - - b")
        self.assertEqual(write_expr(("not", ("is", ("a", None), "b"))), "~ a is b")
        self.assertEqual(write_expr(("<<", ("<<", A, B), ("+", B, C))), "a << b << b + c")

    def test_no_parentheses_too_many(self):
        """Without any one pair of brackets around an operand the text means another tree."""
        for seed in range(120):
            source = random.Random(seed)
            tree = self.random_expr(source, 4)
            tokens = write_expr(tree).split(" ")
            self.assertEqual(self.read(tokens), tree)
            opened = []
            for at, token in enumerate(tokens):
                if token == "(":
                    opened.append(at)
                elif token == ")":
                    low = opened.pop()
                    if low and tokens[low - 1] == "pick":
                        continue
                    less = tokens[:low] + tokens[low + 1:at] + tokens[at + 1:]
                    self.assertNotEqual(self.read(less), tree, tokens)

    def read(self, tokens):
        try:
            return read_design("module m { set x = " + " ".join(tokens) + "; }")[0][3][0][2]
        except BadText:
            return None

    def random_expr(self, source, depth):
        kind = source.randrange(6) if depth else 0
        if kind == 0:
            return source.choice((A, B, name("c", ("-", ("param", "k"), number(1)))))
        if kind == 1:
            return (source.choice(("not", "neg")), self.random_expr(source, depth - 1))
        if kind == 2:
            return ("pick",) + tuple(self.random_expr(source, depth - 1) for _ in range(3))
        op = source.choice("| ^ & == != < <= << >> + - *".split())
        return (op, self.random_expr(source, depth - 1), self.random_expr(source, depth - 1))

    def test_deep_exprs(self):
        tree = A
        for _ in range(30):
            tree = ("not", tree)
        for _ in range(60):
            tree = ("+", tree, B)
        self.assertEqual(self.read(write_expr(tree).split(" ")), tree)


class ConstTest(unittest.TestCase):
    def test_consts(self):
        self.assertEqual(write_const(number(255)), "255")
        self.assertEqual(write_const(("param", "n")), "n")
        self.assertEqual(write_const(("+", number(1), ("*", number(2), number(3)))), "1 + 2 * 3")
        self.assertEqual(write_const(("*", ("+", number(1), number(2)), number(3))), "( 1 + 2 ) * 3")
        self.assertEqual(write_const(("-", ("-", number(3), number(2)), number(1))), "3 - 2 - 1")
        self.assertEqual(write_const(("-", number(3), ("+", number(2), number(1)))), "3 - ( 2 + 1 )")
        self.assertEqual(write_const(("*", number(3), ("*", number(2), number(1)))), "3 * ( 2 * 1 )")


if __name__ == "__main__":
    unittest.main()
