"""Combs, and the finder of routings."""
import random
import unittest
import unittest.mock

from beatfabric.combs import comb_loads
from beatfabric.crowding import settled_trees
from beatfabric.errors import NotRoutable
from beatfabric.placing import place
from beatfabric.routes import judge_routes
from beatfabric.routing import route
from tests.cellmaking import (
    fitting, random_cells, random_fabric, random_placed, random_places, slow_judge_routes, slow_loads,
)
from tests.netmaking import is_plain
from tests.test_places import chain


def across(many, tracks):
    """Inputs on the left tile of a fabric of one row and outputs that show them on the right tile."""
    fabric = ("fabric", 3, 1, tracks, 2)
    pads = [(side, track) for side in (0, 2) for track in range(tracks)]
    cells = (
        "cells", tuple(f"i{at}" for at in range(many)), (), tuple((f"y{at}", ("in", at)) for at in range(many)),
    )
    return fabric, cells, (
        "places", (), tuple((0, 0) + pads[at] for at in range(many)), tuple((2, 0) + pads[at] for at in range(many)),
    )


def around(more, tracks):
    """As many nets down a column as there are tracks, and more whose combs go down there, too; other ways are free."""
    fabric = ("fabric", 3, 3, tracks, 4)
    leaves = tuple(("in", tracks + at) for at in range(more))
    cells = (
        "cells", tuple(f"i{at}" for at in range(tracks + more)), ((leaves, (1,) * 2 ** more, None),),
        tuple((f"y{at}", ("in", at)) for at in range(tracks)),
    )
    sources = [(1, 0, 0, track) for track in range(tracks)]
    sources += [(0, 0, side, track) for track in range(tracks) for side in (0, 3)][:more]
    return fabric, cells, ("places", ((1, 1),), tuple(sources), tuple((1, 2, 2, track) for track in range(tracks)))


class CombsTest(unittest.TestCase):
    def test_by_hand(self):
        """Along the row of the source first, then along the column of the sink."""
        cells = ("cells", ("a",), (), (("y", ("in", 0)), ("z", ("in", 0)), ("x", ("in", 0))))
        places = ("places", (), ((1, 1, 0, 0),), ((3, 0, 0, 0), (3, 3, 1, 0), (0, 2, 3, 0)))
        self.assertEqual(comb_loads(cells, places), (
            ((0, 1, 2), 1), ((1, 1, 1), 1), ((1, 1, 3), 1), ((2, 1, 1), 1), ((3, 1, 0), 1), ((3, 1, 2), 1),
            ((3, 2, 2), 1),
        ))

    def test_one_tile(self):
        """A net whose ends are all on one tile uses no side."""
        cells = ("cells", ("a", "b"), (((("in", 0), ("reg", 0)), (0, 1, 1, 0), 0),), (("y", ("reg", 0)),))
        places = ("places", ((0, 0),), ((0, 0, 0, 0), (5, 5, 1, 1)), ((0, 0, 3, 0),))
        self.assertEqual(comb_loads(cells, places), ())
        self.assertEqual(comb_loads(("cells", (), (), ()), ("places", (), (), ())), ())

    def test_two_nets_of_one_cell(self):
        """The table and the register of a cell are two nets."""
        cells = (
            "cells", ("a",), (((("in", 0),), (0, 1), 0), ((("out", 0), ("reg", 0)), (0, 1, 1, 0), None)),
            (("y", ("out", 0)), ("z", ("out", 0))),
        )
        places = ("places", ((0, 0), (1, 0)), ((0, 0, 0, 0),), ((1, 0, 0, 0), (1, 0, 2, 0)))
        self.assertEqual(comb_loads(cells, places), (((0, 0, 1), 2),))

    def test_random(self):
        for seed in range(400):
            source = random.Random(seed)
            _, cells, places = random_placed(source, columns=8, rows=8)
            told = comb_loads(cells, places)
            self.assertEqual(told, slow_loads(cells, places))
            self.assertEqual(comb_loads(cells, places), told)
            self.assertIs(is_plain(told), True)


class RouteTest(unittest.TestCase):
    def check(self, fabric, cells, places):
        routes = route(fabric, cells, places)
        self.assertIs(judge_routes(fabric, cells, places, routes), True)
        self.assertIs(slow_judge_routes(fabric, cells, places, routes), True)
        self.assertEqual(route(fabric, cells, places), routes)
        self.assertIs(is_plain(routes), True)
        return routes

    def test_nothing(self):
        self.assertEqual(route(("fabric", 1, 1, 1, 2), ("cells", (), (), ()), ("places", (), (), ())),
                         ("routes", (), ()))
        cells, places = ("cells", ("a",), (), ()), ("places", (), ((0, 0, 0, 0),), ())
        self.assertEqual(route(("fabric", 1, 1, 1, 2), cells, places), ("routes", (), ()))

    def test_one_tile(self):
        """All ends on one tile: only pads are wires."""
        cells = (
            "cells", ("a", "b"), (((("in", 0), ("reg", 0)), (0, 1, 1, 0), 0),),
            (("y", ("reg", 0)), ("z", ("in", 0)), ("x", ("out", 0)), ("w", ("out", 0))),
        )
        places = ("places", ((0, 0),), ((0, 0, 3, 1), (0, 0, 0, 0)),
                  ((0, 0, 3, 1), (0, 0, 0, 0), (0, 0, 1, 0), (0, 0, 1, 1)))
        self.assertEqual(self.check(("fabric", 1, 1, 2, 3), cells, places), (
            "routes", ((10, 2, 0),), (((0, 0, 0, 0), 10), ((0, 0, 1, 0), 1), ((0, 0, 1, 1), 1), ((0, 0, 3, 1), 2)),
        ))

    def test_as_many_nets_as_tracks(self):
        for tracks in range(1, 13):
            self.check(*across(tracks, tracks))

    def test_one_net_more_than_tracks(self):
        """There is no other way between the tiles."""
        for tracks in range(1, 13):
            with self.assertRaises(NotRoutable):
                route(*across(tracks + 1, tracks))

    def test_detours(self):
        """Combs that are too many for a side, with room on other sides."""
        for tracks in (1, 2, 5, 12):
            for more in range(min(4, 2 * tracks) + 1):
                fabric, cells, places = around(more, tracks)
                self.assertEqual(dict(comb_loads(cells, places))[(1, 0, 2)], tracks + more)
                if more <= tracks + 1:
                    self.check(fabric, cells, places)
        fabric = ("fabric", 2, 2, 1, 2)
        cells = ("cells", ("a", "b"), (), (("y", ("in", 0)), ("z", ("in", 1))))
        places = ("places", (), ((0, 0, 0, 0), (0, 0, 3, 0)), ((1, 1, 1, 0), (1, 1, 2, 0)))
        self.assertEqual(max(many for _, many in comb_loads(cells, places)), 2)
        self.check(fabric, cells, places)

    def test_whenever_the_combs_have_room(self):
        counted = {"room": 0, "found": 0, "refused": 0}
        for seed in range(700):
            source = random.Random(seed)
            fabric, cells, places = random_placed(source, columns=5, rows=5, tracks=3)
            crowded = any(many > fabric[3] for _, many in comb_loads(cells, places))
            try:
                self.check(fabric, cells, places)
                counted["found" if crowded else "room"] += 1
            except NotRoutable:
                self.assertTrue(crowded)
                counted["refused"] += 1
        self.assertGreater(counted["room"], 200)
        self.assertGreater(counted["found"], 20)
        self.assertGreater(counted["refused"], 5)

    def test_combs_that_have_room_are_taken(self):
        """They need no trees that give way to each other."""
        with unittest.mock.patch("beatfabric.routing.settled_trees", lambda fabric, nets: None):
            for tracks in range(1, 13):
                self.check(*across(tracks, tracks))
                with self.assertRaises(NotRoutable):
                    route(*around(1, tracks))
            for seed in range(200):
                source = random.Random(seed)
                fabric, cells, places = random_placed(source, columns=5, rows=5, tracks=3)
                if all(many <= fabric[3] for _, many in comb_loads(cells, places)):
                    self.check(fabric, cells, places)

    def test_just_enough_tracks(self):
        """As many tracks as the side with the most nets needs, and pads on all of them."""
        many = 0
        for seed in range(300):
            source = random.Random(seed)
            fabric = random_fabric(source, columns=6, rows=6, tracks=1)
            cells = random_cells(source, fabric[4], inputs=6, regs=5, tables=12, outputs=6)
            if not fitting(fabric, cells):
                continue
            places = random_places(source, fabric, cells)
            loads = [load for _, load in comb_loads(cells, places)]
            if loads and max(loads) <= 12:
                many += 1
                fabric = fabric[:3] + (max(loads), fabric[4])
                self.check(fabric, cells, places)
        self.assertGreater(many, 40)

    def test_good_placements(self):
        for seed in range(100):
            source = random.Random(seed)
            fabric, cells, _ = random_placed(source, columns=4, rows=4, tracks=4)
            fabric = fabric[:3] + (12, fabric[4])
            self.check(fabric, cells, place(fabric, cells, seed=seed))

    def test_long_nets(self):
        """From corner to corner of the largest fabric."""
        fabric = ("fabric", 8, 8, 12, 4)
        cells = chain(2)
        places = ("places", ((0, 0), (7, 7)), ((7, 0, 0, 11),), ((0, 7, 3, 11),))
        self.check(fabric, cells, places)


class CrowdTest(unittest.TestCase):
    def test_trees_reach_all_sinks(self):
        """Each tile of a tree stands behind the one from which it is entered."""
        for seed in range(60):
            source = random.Random(seed)
            fabric = ("fabric", source.randrange(1, 5), source.randrange(1, 5), 2, 2)
            nets = {}
            for at in range(source.randrange(1, 6)):
                nets[at] = [
                    (source.randrange(fabric[1]), source.randrange(fabric[2])) for _ in range(source.randrange(2, 5))
                ]
            trees = settled_trees(fabric, nets)
            if trees is None:
                continue
            loads = {}
            for at, tiles in nets.items():
                tree = trees[at]
                self.assertIsNone(tree[tiles[0]])
                self.assertTrue(all(tile in tree for tile in tiles))
                seen = []
                for tile, side in tree.items():
                    if side is not None:
                        self.assertIn(side[:2], seen)
                        loads[side] = loads.get(side, 0) + 1
                    seen.append(tile)
            self.assertLessEqual(max(loads.values(), default=0), 2)


if __name__ == "__main__":
    unittest.main()
