"""The shortest ring among names that hang on each other."""
import itertools
import random
import unittest

from beatfabric.rings import shortest_ring


def slow_ring(links):
    """Tries all rows of names."""
    hangs = dict(links)
    for size in range(1, len(hangs) + 1):
        found = []
        for row in itertools.permutations(sorted(hangs), size):
            if row[0] == min(row) and all(b in hangs[a] for a, b in zip(row, row[1:] + row[:1])):
                found.append(row)
        if found:
            return min(found)
    return ()


class RingsTest(unittest.TestCase):
    def test_none(self):
        self.assertEqual(shortest_ring(()), ())
        self.assertEqual(shortest_ring((("a", ()),)), ())
        self.assertEqual(shortest_ring((("a", ("b", "c")), ("b", ("c",)))), ())

    def test_one_name(self):
        self.assertEqual(shortest_ring((("a", ("a",)),)), ("a",))
        self.assertEqual(shortest_ring((("a", ("b",)), ("b", ("a", "b")), ("c", ("c",)))), ("b",))

    def test_the_example(self):
        self.assertEqual(shortest_ring((("a", ("b",)), ("b", ("c", "a")), ("c", ("a",)))), ("a", "b"))

    def test_written_from_the_least_name_on(self):
        self.assertEqual(shortest_ring((("c", ("b",)), ("b", ("a",)), ("a", ("c",)))), ("a", "c", "b"))

    def test_several_of_one_length(self):
        links = (("d", ("c",)), ("c", ("d", "b")), ("b", ("c", "a")), ("a", ("b",)))
        self.assertEqual(shortest_ring(links), ("a", "b"))
        links = (("a", ("c", "b")), ("b", ("d",)), ("c", ("d",)), ("d", ("a",)))
        self.assertEqual(shortest_ring(links), ("a", "b", "d"))
        links = (("a", ("x",)), ("x", ("b", "y")), ("b", ()), ("y", ("a",)), ("z", ("a", "z1")), ("z1", ("z",)))
        self.assertEqual(shortest_ring(links), ("z", "z1"))

    def test_names_without_a_pair(self):
        self.assertEqual(shortest_ring((("a", ("x", "b")), ("b", ("x", "a")))), ("a", "b"))
        self.assertEqual(shortest_ring((("a", ("x",)), ("b", ("y",)))), ())

    def test_names_as_python_orders_them(self):
        self.assertEqual(shortest_ring((("w@10", ("w@9",)), ("w@9", ("w@10",)))), ("w@10", "w@9"))

    def test_double_names(self):
        self.assertEqual(shortest_ring((("a", ("b", "b")), ("b", ("a", "a", "c")))), ("a", "b"))

    def test_random(self):
        for seed in range(300):
            source = random.Random(seed)
            names = [f"n{at}" for at in range(source.randrange(1, 7))]
            density = source.choice((0.15, 0.25, 0.4))
            links = [(name, tuple(other for other in names if source.random() < density)) for name in names]
            source.shuffle(links)
            self.assertEqual(shortest_ring(tuple(links)), slow_ring(links), links)

    def test_long(self):
        names = [f"n{at:03}" for at in range(400)]
        links = tuple((name, (other,)) for name, other in zip(names, names[1:] + names[:1]))
        self.assertEqual(shortest_ring(links), tuple(names))


if __name__ == "__main__":
    unittest.main()
