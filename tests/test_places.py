"""Placements: the judge, their lengths, good ones, and the finder."""
import random
import unittest

from beatfabric.errors import TooLarge
from beatfabric.places import is_good, judge_places, length_of
from beatfabric.placing import place
from tests.cellmaking import (
    fitting, random_cells, random_fabric, random_placed, random_places, slow_is_good, slow_judge_places, slow_length,
    slow_pads, slow_tiles,
)
from tests.mutants import changed, relisted
from tests.netmaking import is_plain

FABRIC = ("fabric", 2, 2, 2, 3)
CELLS = (
    "cells", ("a", "b"), (((("in", 0), ("reg", 1)), (0, 1, 1, 0), None), ((("out", 0), ("in", 1)), (0, 1, 1, 1), 1)),
    (("y", ("reg", 1)), ("z", ("out", 0)), ("x", ("in", 1))),
)
PLACES = (
    "places", ((0, 0), (1, 1)), ((0, 0, 0, 1), (0, 1, 3, 0)), ((1, 1, 1, 0), (1, 0, 0, 0), (0, 1, 3, 0)),
)


def cells_with(inputs, cells, outputs, leaves=2):
    """So many inputs and cells, each cell reading the first inputs, and outputs that show the inputs."""
    rows = tuple((tuple(("in", j) for j in range(leaves)), (0, 1) * 2 ** (leaves - 1), 0) for _ in range(cells))
    shown = tuple((f"y{at}", ("in", at % inputs)) for at in range(outputs))
    return ("cells", tuple(f"i{at}" for at in range(inputs)), rows, shown)


def chain(many, inputs=1):
    """Cells of which each reads the one ahead of it; the first ones read the inputs."""
    rows = [((("in", at),), (1, 0), None) for at in range(inputs)]
    rows += [((("out", at),), (1, 0), None) for at in range(many - inputs)]
    outputs = (("y", ("out", many - 1)),) if many else ()
    return ("cells", tuple(f"i{at}" for at in range(inputs)), tuple(rows), outputs)


class JudgeTest(unittest.TestCase):
    def good(self, places, fabric=FABRIC, cells=CELLS):
        self.assertIs(judge_places(fabric, cells, places), True, places)

    def bad(self, places, fabric=FABRIC, cells=CELLS):
        self.assertIs(judge_places(fabric, cells, places), False, places)

    def test_by_hand(self):
        self.good(PLACES)
        self.bad(("place",) + PLACES[1:])
        self.bad(("",) + PLACES[1:])
        for at in (1, 2, 3):
            rows = PLACES[at]
            for other in (rows[:-1], rows[1:], (), rows + rows[:1], rows + ((0, 0) if at == 1 else (0, 0, 3, 1),),
                          rows[:-1] + rows[:1]):
                self.bad(PLACES[:at] + (other,) + PLACES[at + 1:])
            for other in (rows[::-1],):
                self.good(PLACES[:at] + (other,) + PLACES[at + 1:])

    def test_tiles(self):
        for tile in ((-1, 0), (0, -1), (2, 0), (0, 2), (1000000, 0), (0, -1000000), (-2, -2)):
            self.bad(("places", ((0, 0), tile)) + PLACES[2:])
        for tile in ((1, 0), (0, 1), (1, 1)):
            self.good(("places", ((0, 0), tile)) + PLACES[2:])

    def test_pads(self):
        """One pad can be that of an input and of an output; inner wires are no pads."""
        for pad in ((0, 0, 1, 0), (0, 0, 2, 0), (1, 1, 0, 0), (1, 1, 3, 1), (0, 0, 0, 2), (0, 0, 0, -1), (0, 0, 4, 0),
                    (0, 0, -1, 0), (-1, 0, 0, 0), (2, 0, 0, 0), (0, -1, 3, 0), (0, 2, 3, 0), (0, 0, -4, 0)):
            self.bad(PLACES[:2] + (PLACES[2][:1] + (pad,),) + PLACES[3:])
            self.bad(PLACES[:3] + (PLACES[3][:2] + (pad,),))
        for pad in ((0, 0, 0, 0), (0, 0, 3, 1), (1, 0, 1, 1), (1, 1, 2, 1)):
            self.good(PLACES[:2] + (PLACES[2][:1] + (pad,),) + PLACES[3:])
            self.good(PLACES[:3] + (PLACES[3][:2] + (pad,),))

    def test_wrong_copies(self):
        counted = {True: 0, False: 0}
        for seed in range(800):
            source = random.Random(seed)
            fabric, cells, places = random_placed(source, columns=3, rows=3, tracks=2)
            self.assertIs(judge_places(fabric, cells, places), True)
            for kind in range(3):
                at = source.randrange(1, 4)
                other = changed(source, places)
                if kind == 1:
                    other = places[:at] + (relisted(source, places[at]),) + places[at + 1:]
                if kind == 2 and places[at]:
                    # Another tile or pad that exists.
                    rows = list(places[at])
                    rows[source.randrange(len(rows))] = source.choice(
                        slow_tiles(fabric) if at == 1 else slow_pads(fabric)
                    )
                    other = places[:at] + (tuple(rows),) + places[at + 1:]
                told = judge_places(fabric, cells, other)
                self.assertIs(told, slow_judge_places(fabric, cells, other), (fabric, cells, other))
                counted[told] += 1
        self.assertGreater(min(counted.values()), 300)


class LengthTest(unittest.TestCase):
    def test_by_hand(self):
        """Nets of out 0, in 0, in 1, reg 1; the table of cell 1 is no net."""
        self.assertEqual(length_of(CELLS, PLACES), 2 + 0 + 1 + 2)

    def test_what_is_no_net(self):
        """An input that nothing reads does not count, nor does a register."""
        cells = ("cells", ("a", "b"), (((("in", 0),), (0, 1), 1),), ())
        self.assertEqual(length_of(cells, ("places", ((0, 0),), ((0, 0, 0, 0), (7, 7, 1, 0)), ())), 0)
        self.assertEqual(length_of(("cells", (), (), ()), ("places", (), (), ())), 0)

    def test_two_outputs_of_one_ref(self):
        cells = ("cells", ("a",), (), (("y", ("in", 0)), ("z", ("in", 0))))
        places = ("places", (), ((3, 0, 0, 0),), ((0, 0, 0, 0), (7, 5, 1, 0)))
        self.assertEqual(length_of(cells, places), 7 + 5)

    def test_tiles_can_be_the_same(self):
        cells = chain(3)
        self.assertEqual(length_of(cells, ("places", ((1, 1),) * 3, ((1, 0, 0, 0),), ((1, 3, 2, 0),))), 1 + 2)

    def test_random(self):
        for seed in range(300):
            source = random.Random(seed)
            fabric, cells, places = random_placed(source)
            self.assertEqual(length_of(cells, places), slow_length(cells, places))
            tiles = tuple(source.choice(slow_tiles(fabric)) for _ in places[1])
            places = places[:1] + (tiles,) + places[2:]
            self.assertEqual(length_of(cells, places), slow_length(cells, places))


class GoodTest(unittest.TestCase):
    def test_moves(self):
        """A cell alone is good just where its net is not longer than needed."""
        fabric = ("fabric", 3, 1, 1, 2)
        cells = chain(1)
        for x in range(3):
            places = ("places", ((x, 0),), ((0, 0, 0, 0),), ((1, 0, 0, 0),))
            self.assertIs(is_good(fabric, cells, places), x < 2)

    def test_exchanges(self):
        fabric = ("fabric", 2, 1, 1, 2)
        cells = ("cells", ("a", "b"), (((("in", 0),), (0, 1), 1), ((("in", 1),), (0, 1), 1)), ())
        pads = ((0, 0, 0, 0), (1, 0, 0, 0))
        self.assertIs(is_good(fabric, cells, ("places", ((0, 0), (1, 0)), pads, ())), True)
        self.assertIs(is_good(fabric, cells, ("places", ((1, 0), (0, 0)), pads, ())), False)

    def test_random(self):
        counted = {True: 0, False: 0}
        for seed in range(250):
            source = random.Random(seed)
            fabric, cells, places = random_placed(source, columns=3, rows=3, tracks=2)
            for other in (places, place(fabric, cells, seed=seed)):
                told = is_good(fabric, cells, other)
                self.assertIs(told, slow_is_good(fabric, cells, other))
                counted[told] += 1
        self.assertGreater(min(counted.values()), 80)


class PlaceTest(unittest.TestCase):
    def check(self, fabric, cells, seed):
        places = place(fabric, cells, seed=seed)
        self.assertIs(slow_judge_places(fabric, cells, places), True)
        self.assertIs(judge_places(fabric, cells, places), True)
        self.assertIs(is_good(fabric, cells, places), True)
        self.assertIs(is_plain(places), True)
        return places

    def test_nothing(self):
        for cells in (("cells", (), (), ()), ("cells", ("a",), (), (("y", ("in", 0)), ("z", ("in", 0))))):
            for fabric in (("fabric", 1, 1, 1, 2), ("fabric", 8, 8, 12, 4)):
                self.check(fabric, cells, 0)

    def test_seeds(self):
        fabric = ("fabric", 3, 3, 2, 4)
        cells = random_cells(random.Random(4), inputs=3, regs=3, tables=5, outputs=3)
        found = set()
        for seed in range(1001):
            places = place(fabric, cells, seed=seed)
            self.assertIs(judge_places(fabric, cells, places) and is_good(fabric, cells, places), True, seed)
            found.add(places)
        self.assertGreater(len(found), 1)
        self.assertEqual(place(fabric, cells), place(fabric, cells, seed=0))

    def test_the_seed_is_passed_by_name(self):
        with self.assertRaises(TypeError):
            place(FABRIC, CELLS, 1)

    def test_random(self):
        for seed in range(150):
            source = random.Random(seed)
            fabric, cells, _ = random_placed(source)
            at = source.choice((0, 1, 1000, source.randrange(1001)))
            self.assertEqual(self.check(fabric, cells, at), place(fabric, cells, seed=at))

    def test_slowly(self):
        for seed in range(40):
            source = random.Random(seed)
            fabric, cells, _ = random_placed(source, columns=3, rows=3)
            self.assertIs(slow_is_good(fabric, cells, place(fabric, cells, seed=seed)), True)

    def test_full_fabrics(self):
        """As many cells as tiles, as many inputs and outputs as pads."""
        for columns, rows, tracks in ((1, 1, 1), (1, 1, 12), (1, 8, 1), (8, 1, 2), (2, 2, 12), (3, 3, 1), (8, 8, 1)):
            fabric = ("fabric", columns, rows, tracks, 2)
            pads = len(slow_pads(fabric))
            self.check(fabric, chain(columns * rows), 3)
            self.check(fabric, cells_with(pads, columns * rows, pads), 1000)

    def test_a_full_large_fabric(self):
        fabric = ("fabric", 8, 8, 12, 4)
        source = random.Random(5)
        while True:
            cells = random_cells(source, inputs=20, regs=30, tables=50, outputs=20)
            if len(cells[2]) <= 64:
                break
        for seed in (0, 1, 1000):
            self.check(fabric, cells, seed)

    def refused(self, part, fabric, cells):
        for seed in (0, 7, 1000):
            with self.assertRaises(TooLarge) as caught:
                place(fabric, cells, seed=seed)
            self.assertEqual(caught.exception.part, part)

    def test_too_large(self):
        for columns, rows in ((1, 1), (1, 3), (4, 1), (3, 2), (8, 8)):
            fabric = ("fabric", columns, rows, 1, 2)
            pads = len(slow_pads(fabric))
            many = columns * rows
            self.refused("cells", fabric, chain(many + 1))
            self.refused("pads", fabric, cells_with(pads + 1, 0, 1))
            self.refused("pads", fabric, cells_with(2, many, pads + 1))
            self.refused("cells", fabric, cells_with(pads + 1, many + 1, pads + 1))

    def test_too_many_leaves(self):
        for k in (2, 3):
            fabric = ("fabric", 2, 2, 1, k)
            self.check(fabric, cells_with(4, 1, 1, k), 0)
            self.refused("cells", fabric, cells_with(4, 1, 1, k + 1))
            self.refused("cells", fabric, cells_with(100, 1, 100, k + 1))

    def test_pads_of_one_kind_only(self):
        """As many inputs as pads leave all pads to the outputs."""
        fabric = ("fabric", 1, 2, 2, 2)
        pads = len(slow_pads(fabric))
        self.check(fabric, cells_with(pads, 2, pads), 0)
        self.refused("pads", fabric, cells_with(pads + 1, 2, 0))

    def test_what_fits_is_placed(self):
        for seed in range(200):
            source = random.Random(seed)
            fabric = random_fabric(source, columns=2, rows=2, tracks=1)
            cells = random_cells(source, 4)
            if fitting(fabric, cells):
                self.check(fabric, cells, seed)
                self.assertIs(judge_places(fabric, cells, random_places(source, fabric, cells)), True)
            else:
                with self.assertRaises(TooLarge):
                    place(fabric, cells, seed=seed)


if __name__ == "__main__":
    unittest.main()
