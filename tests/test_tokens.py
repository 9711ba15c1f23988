"""The tokens of texts."""
import unittest

from beatfabric.tokens import tokens_of

SIGNS = "{ } ( ) [ ] , ; : . .. @ = == != < <= << >> ~ - + * & | ^".split()


class TokensTest(unittest.TestCase):
    def test_nothing(self):
        for text in ("", " ", "\n", " \n \n\n "):
            self.assertEqual(tokens_of(text), ())

    def test_separated_by_anything_or_nothing(self):
        for text in ("set x=a<<1;", " set\nx = a\n\n<<1 ; ", "set x = a << 1 ;"):
            self.assertEqual(tokens_of(text), ("set", "x", "=", "a", "<<", "1", ";"))

    def test_signs(self):
        for sign in SIGNS:
            self.assertEqual(tokens_of(sign), (sign,))
            self.assertEqual(tokens_of(f"a{sign}b"), ("a", sign, "b"))
        self.assertEqual(tokens_of(" ".join(SIGNS)), tuple(SIGNS))

    def test_the_longest_fits(self):
        self.assertEqual(tokens_of("..."), ("..", "."))
        self.assertEqual(tokens_of("==="), ("==", "="))
        self.assertEqual(tokens_of("<<="), ("<<", "="))
        self.assertEqual(tokens_of("<=="), ("<=", "="))
        self.assertEqual(tokens_of("<<<"), ("<<", "<"))
        self.assertEqual(tokens_of(">>>"), (">>", ">"))
        self.assertEqual(tokens_of("= ="), ("=", "="))
        self.assertEqual(tokens_of("!=="), ("!=", "="))
        self.assertEqual(tokens_of("1..2"), ("1", "..", "2"))
        self.assertEqual(tokens_of("~~--"), ("~", "~", "-", "-"))

    def test_runs(self):
        self.assertEqual(tokens_of("a1B2"), ("a1B2",))
        self.assertEqual(tokens_of("12ab"), ("12ab",))
        self.assertEqual(tokens_of("007"), ("007",))
        self.assertEqual(tokens_of("abcdefghijk"), ("abcdefghijk",))
        self.assertEqual(tokens_of("AZaz09"), ("AZaz09",))

    def test_other_characters(self):
        for sign in "!\"#$%'/>?\\_`":
            self.assertEqual(tokens_of(f"a{sign}b"), ("a", sign, "b"))
        self.assertEqual(tokens_of("a_b"), ("a", "_", "b"))
        self.assertEqual(tokens_of("!>"), ("!", ">"))


if __name__ == "__main__":
    unittest.main()
