"""The values of consts."""
import unittest

from beatfabric.consts import const_value
from beatfabric.errors import BadNumber, Unknown


def number(value):
    return ("int", value)


class ConstsTest(unittest.TestCase):
    def bad(self, value, const, numbers=()):
        with self.assertRaises(BadNumber) as caught:
            const_value(const, numbers)
        self.assertEqual(caught.exception.value, value)

    def unknown(self, name, const, numbers=()):
        with self.assertRaises(Unknown) as caught:
            const_value(const, numbers)
        self.assertEqual(caught.exception.name, name)

    def test_values(self):
        self.assertEqual(const_value(number(0), ()), 0)
        self.assertEqual(const_value(number(255), ()), 255)
        self.assertEqual(const_value(("+", number(200), number(55)), ()), 255)
        self.assertEqual(const_value(("-", number(7), number(7)), ()), 0)
        self.assertEqual(const_value(("*", number(15), number(17)), ()), 255)
        self.assertEqual(const_value(("*", number(0), number(255)), ()), 0)

    def test_parameters(self):
        self.assertEqual(const_value(("param", "n"), (("n", 5),)), 5)
        self.assertEqual(const_value(("param", "n"), (("n", 5), ("m", 1), ("n", 6), ("k", 2))), 6)
        self.assertEqual(const_value(("+", ("param", "n"), ("param", "m")), (("n", 5), ("m", 1))), 6)

    def test_out_of_bounds(self):
        self.bad(256, number(256))
        self.bad(256, ("+", number(255), number(1)))
        self.bad(-1, ("-", number(0), number(1)))
        self.bad(65025, ("*", number(255), number(255)))
        self.bad(300, ("param", "n"), (("n", 300),))

    def test_inner_parts_count(self):
        self.bad(256, ("-", ("+", number(255), number(1)), number(1)))
        self.bad(-1, ("*", number(0), ("-", number(1), number(2))))

    def test_unknown(self):
        self.unknown("n", ("param", "n"))
        self.unknown("n", ("*", number(0), ("param", "n")), (("m", 1),))

    def test_the_first_fault_is_told(self):
        over = ("+", number(200), number(100))
        under = ("-", number(1), number(3))
        self.bad(300, ("+", over, under))
        self.bad(-2, ("+", under, over))
        self.bad(300, ("+", over, ("param", "n")))
        self.unknown("n", ("+", ("param", "n"), over))
        self.unknown("n", ("+", ("param", "n"), ("param", "m")))
        self.bad(-2, ("-", ("*", number(2), under), ("param", "n")))

    def test_deep(self):
        const = number(0)
        for _ in range(97):
            const = ("+", const, number(1))
        self.assertEqual(const_value(const, ()), 97)
        for _ in range(97):
            const = ("+", number(0), const)
        self.assertEqual(const_value(const, ()), 97)


if __name__ == "__main__":
    unittest.main()
