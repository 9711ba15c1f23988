"""Configurations."""
import random
import unittest

from beatfabric.configs import config_of
from tests.cellmaking import random_placed, random_routes, slow_tiles
from tests.netmaking import is_plain
from tests.test_routes import CELLS, FABRIC, PLACES, ROUTES


def slow_config(fabric, cells, places, routes):
    """The words of the document, one by one."""
    _, _, _, tracks, k = fabric
    rows = []
    for tile in slow_tiles(fabric):
        turns = tuple(
            dict(routes[2]).get(tile + (side, track), 0) for side in range(4) for track in range(tracks)
        )
        if tile not in places[1]:
            rows.append(((0,) * 2 ** k, 0, (0,) * k, turns))
            continue
        at = places[1].index(tile)
        leaves, bits, start = cells[2][at]
        table = tuple(bits[b % 2 ** len(leaves)] for b in range(2 ** k))
        rows.append((table, 0 if start is None else start, routes[1][at], turns))
    return ("config", fabric, tuple(rows))


class ConfigsTest(unittest.TestCase):
    def test_by_hand(self):
        self.assertEqual(config_of(FABRIC, CELLS, PLACES, ROUTES), ("config", FABRIC, (
            ((0, 1, 1, 0), 0, (10, 5), (0, 0, 1, 0, 0, 0, 0, 0)),
            ((0, 0, 0, 0), 0, (0, 0), (0, 5, 0, 9, 7, 0, 5, 0)),
            ((0, 1, 0, 1), 1, (10, 0), (0, 0, 0, 0, 0, 0, 2, 0)),
        )))

    def test_few_leaves(self):
        """A table of m leaves is written again and again."""
        for k in (2, 3, 4):
            fabric = ("fabric", 1, 1, 1, k)
            for many in range(k + 1):
                leaves = tuple(("in", at) for at in range(many))
                bits = tuple(random.Random(many).randrange(2) for _ in range(2 ** many - 1)) + (1,)
                cells = ("cells", ("a", "b", "c", "d"), ((leaves, bits, None),), ())
                places = ("places", ((0, 0),), tuple((0, 0, side, 0) for side in range(4)), ())
                routes = ("routes", (tuple(range(3, 3 + many)) + (0,) * (k - many),), ())
                table, start, pins, turns = config_of(fabric, cells, places, routes)[2][0]
                self.assertEqual(table, bits * 2 ** (k - many))
                self.assertEqual((start, pins, turns), (0, routes[1][0], (0,) * 4))

    def test_starts(self):
        for start, told in ((None, 0), (0, 0), (1, 1)):
            cells = ("cells", (), (((), (1,), start),), ())
            config = config_of(("fabric", 1, 1, 1, 2), cells, ("places", ((0, 0),), (), ()), ("routes", ((0, 0),), ()))
            self.assertEqual(config[2], (((1, 1, 1, 1), told, (0, 0), (0, 0, 0, 0)),))

    def test_no_cells(self):
        cells, places = ("cells", (), (), ()), ("places", (), (), ())
        self.assertEqual(config_of(("fabric", 2, 1, 1, 2), cells, places, ("routes", (), ())), (
            "config", ("fabric", 2, 1, 1, 2), (((0, 0, 0, 0), 0, (0, 0), (0, 0, 0, 0)),) * 2,
        ))

    def test_random(self):
        many = 0
        for seed in range(300):
            source = random.Random(seed)
            fabric, cells, places = random_placed(source)
            routes = random_routes(source, fabric, cells, places)
            if routes is not None:
                many += 1
                told = config_of(fabric, cells, places, routes)
                self.assertEqual(told, slow_config(fabric, cells, places, routes))
                self.assertEqual(config_of(fabric, cells, places, routes), told)
                self.assertIs(is_plain(told), True)
        self.assertGreater(many, 150)


if __name__ == "__main__":
    unittest.main()
