"""The operations on words, and words as bits."""
import unittest

from beatfabric.words import from_bits, join_ports, result, split_ports, to_bits


def bits_of(width, word):
    return [word >> at & 1 for at in range(width)]


class ResultTest(unittest.TestCase):
    def test_one_word(self):
        for width in (1, 2, 3, 8):
            for word in range(1 << width):
                bits = bits_of(width, word)
                told = {
                    "not": (width, (1 << width) - 1 - word),
                    "neg": (width, -word % (1 << width)),
                    "any": (1, int(1 in bits)),
                    "all": (1, int(0 not in bits)),
                    "odd": (1, sum(bits) % 2),
                }
                for op, (own, right) in told.items():
                    self.assertEqual(result(op, own, (width,), (word,)), right, (op, width, word))

    def test_two_words(self):
        told = {
            "add": lambda l, r: l + r, "sub": lambda l, r: l - r, "mul": lambda l, r: l * r,
            "and": lambda l, r: l & r, "or": lambda l, r: l | r, "xor": lambda l, r: l ^ r,
        }
        compared = {
            "lt": lambda l, r: l < r, "le": lambda l, r: l <= r, "eq": lambda l, r: l == r, "ne": lambda l, r: l != r,
        }
        for width in (1, 2, 4):
            for left in range(1 << width):
                for right in range(1 << width):
                    for op, right_word in told.items():
                        self.assertEqual(result(op, width, (width, width), (left, right)),
                                         right_word(left, right) % (1 << width))
                    for op, holds in compared.items():
                        word = result(op, 1, (width, width), (left, right))
                        self.assertEqual(word, int(holds(left, right)))
                        self.assertIs(type(word), int)

    def test_width_eight(self):
        self.assertEqual(result("add", 8, (8, 8), (255, 1)), 0)
        self.assertEqual(result("sub", 8, (8, 8), (0, 1)), 255)
        self.assertEqual(result("mul", 8, (8, 8), (255, 255)), 1)
        self.assertEqual(result("neg", 8, (8,), (128,)), 128)
        self.assertEqual(result("not", 1, (1,), (1,)), 0)

    def test_shifts(self):
        for width in (1, 3, 8):
            for other in (1, 3, 8):
                for left in range(1 << width):
                    for right in range(1 << other):
                        up = result("shl", width, (width, other), (left, right))
                        self.assertEqual(up, left * 2 ** right % 2 ** width)
                        self.assertEqual(result("shr", width, (width, other), (left, right)), left // 2 ** right)

    def test_shift_beyond_the_width(self):
        self.assertEqual(result("shl", 2, (2, 8), (3, 2)), 0)
        self.assertEqual(result("shl", 8, (8, 8), (255, 255)), 0)
        self.assertEqual(result("shr", 8, (8, 8), (255, 255)), 0)
        self.assertEqual(result("shr", 8, (8, 8), (255, 8)), 0)
        self.assertEqual(result("shl", 8, (8, 8), (255, 7)), 128)

    def test_pick(self):
        self.assertEqual(result("pick", 3, (1, 3, 3), (1, 5, 6)), 5)
        self.assertEqual(result("pick", 3, (1, 3, 3), (0, 5, 6)), 6)

    def test_bits(self):
        for low in range(8):
            for high in range(low, 8):
                for word in (0, 1, 0b10110101, 255):
                    self.assertEqual(result("bits", high - low + 1, (8,), (word,), low),
                                     word >> low & (1 << high - low + 1) - 1)
        self.assertEqual(result("bits", 2, (4,), (0b1101,)), 1)
        self.assertEqual(result("bits", 2, (4,), (0b1101,), low=2), 3)

    def test_join(self):
        self.assertEqual(result("join", 5, (2, 3), (2, 5)), 2 * 8 + 5)
        self.assertEqual(result("join", 8, (1, 7), (1, 127)), 255)
        self.assertEqual(result("join", 8, (7, 1), (127, 0)), 254)

    def test_wide(self):
        self.assertEqual(result("wide", 8, (3,), (5,)), 5)
        self.assertEqual(result("wide", 2, (3,), (5,)), 1)
        self.assertEqual(result("wide", 3, (3,), (5,)), 5)

    def test_sign(self):
        self.assertEqual(result("sign", 8, (3,), (5,)), 0b11111101)
        self.assertEqual(result("sign", 8, (3,), (3,)), 3)
        self.assertEqual(result("sign", 3, (3,), (5,)), 5)
        self.assertEqual(result("sign", 8, (1,), (1,)), 255)
        self.assertEqual(result("sign", 8, (8,), (200,)), 200)


class BitsTest(unittest.TestCase):
    def test_bits_of_words(self):
        self.assertEqual(to_bits(4, 6), (0, 1, 1, 0))
        self.assertEqual(to_bits(1, 1), (1,))
        self.assertEqual(to_bits(8, 255), (1,) * 8)
        self.assertEqual(from_bits((0, 1, 1, 0)), 6)
        for word in range(256):
            self.assertEqual(from_bits(to_bits(8, word)), word)

    def test_ports(self):
        ports = (("a", 2), ("b", 1), ("c", 3))
        self.assertEqual(split_ports(ports, (2, 1, 4)), (0, 1, 1, 0, 0, 1))
        self.assertEqual(join_ports(ports, (0, 1, 1, 0, 0, 1)), (2, 1, 4))
        self.assertEqual(split_ports((), ()), ())
        self.assertEqual(join_ports((), ()), ())

    def test_ports_there_and_back(self):
        ports = (("a", 8), ("b", 1), ("c", 5))
        for words in ((255, 0, 31), (0, 1, 0), (129, 1, 17)):
            bits = split_ports(ports, words)
            self.assertEqual(len(bits), 14)
            self.assertEqual(join_ports(ports, bits), words)


if __name__ == "__main__":
    unittest.main()
