"""Fabrics: tiles, pads, and what enters a tile."""
import unittest

from beatfabric.fabrics import entering, pads_of, tiles_of
from tests.cellmaking import slow_entering, slow_pads, slow_tiles

SIZES = ((1, 1), (1, 2), (2, 1), (1, 8), (8, 1), (2, 3), (3, 3), (5, 4), (8, 8))


def fabrics():
    return [("fabric", columns, rows, tracks, k) for columns, rows in SIZES for tracks, k in ((1, 2), (3, 4), (12, 3))]


class FabricsTest(unittest.TestCase):
    def test_tiles(self):
        self.assertEqual(tiles_of(("fabric", 3, 2, 4, 3)), ((0, 0), (1, 0), (2, 0), (0, 1), (1, 1), (2, 1)))
        self.assertEqual(tiles_of(("fabric", 1, 1, 1, 2)), ((0, 0),))
        for fabric in fabrics():
            self.assertEqual(tiles_of(fabric), tuple(slow_tiles(fabric)))

    def test_pads(self):
        self.assertEqual(pads_of(("fabric", 1, 1, 1, 2)), ((0, 0, 0, 0), (0, 0, 1, 0), (0, 0, 2, 0), (0, 0, 3, 0)))
        self.assertEqual(pads_of(("fabric", 2, 1, 2, 2)), (
            (0, 0, 0, 0), (0, 0, 0, 1), (0, 0, 2, 0), (0, 0, 2, 1), (0, 0, 3, 0), (0, 0, 3, 1),
            (1, 0, 0, 0), (1, 0, 0, 1), (1, 0, 1, 0), (1, 0, 1, 1), (1, 0, 2, 0), (1, 0, 2, 1),
        ))
        for fabric in fabrics():
            pads = pads_of(fabric)
            self.assertEqual(pads, tuple(slow_pads(fabric)))
            self.assertEqual(len(pads), 2 * (fabric[1] + fabric[2]) * fabric[3])
            self.assertEqual(list(pads), sorted(set(pads)))

    def test_entering_by_hand(self):
        fabric = ("fabric", 3, 3, 4, 3)
        self.assertEqual(entering(fabric, 1, 1, 0, 2), ("wire", (1, 0, 2, 2)))
        self.assertEqual(entering(fabric, 1, 1, 1, 3), ("wire", (2, 1, 3, 3)))
        self.assertEqual(entering(fabric, 1, 1, 2, 0), ("wire", (1, 2, 0, 0)))
        self.assertEqual(entering(fabric, 1, 1, 3, 1), ("wire", (0, 1, 1, 1)))
        for corner, sides in (((0, 0), (0, 3)), ((2, 0), (0, 1)), ((2, 2), (1, 2)), ((0, 2), (2, 3))):
            for side in range(4):
                word, place = entering(fabric, *corner, side, 1)
                self.assertEqual(word, "pad" if side in sides else "wire")
                if side in sides:
                    self.assertEqual(place, corner + (side, 1))

    def test_entering(self):
        for fabric in fabrics():
            for x, y in tiles_of(fabric):
                for side in range(4):
                    for track in range(fabric[3]):
                        told = entering(fabric, x, y, side, track)
                        self.assertEqual(told, slow_entering(fabric, x, y, side, track))
                        self.assertIs(told[0] == "pad", (x, y, side, track) in pads_of(fabric))


if __name__ == "__main__":
    unittest.main()
