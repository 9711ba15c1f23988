"""Routings: tracing, and the judge."""
import random
import unittest

from beatfabric.routes import judge_routes, source_of
from beatfabric.routing import route
from tests.cellmaking import (
    random_placed, random_places, random_routes, slow_judge_routes, slow_tiles, slow_trace,
)
from tests.mutants import changed, relisted

# With 2 tracks: 3 + 2 * side + track.
FABRIC = ("fabric", 3, 1, 2, 2)
CELLS = (
    "cells", ("a", "b"), (((("in", 0), ("reg", 1)), (0, 1, 1, 0), None), ((("out", 0),), (0, 1), 1)),
    (("y", ("reg", 1)), ("z", ("in", 1))),
)
PLACES = ("places", ((0, 0), (2, 0)), ((0, 0, 3, 1), (1, 0, 2, 0)), ((1, 0, 0, 1), (1, 0, 2, 0)))
TURNS = (
    ((0, 0, 1, 0), 1), ((1, 0, 0, 1), 5), ((1, 0, 1, 1), 9), ((1, 0, 2, 0), 7), ((1, 0, 3, 0), 5), ((2, 0, 3, 0), 2),
)
PINS = ((10, 5), (10, 0))
ROUTES = ("routes", PINS, TURNS)


def detoured(source, fabric, routes):
    """The routing with a selector replaced by another one that can select something."""
    selector = source.randrange(-1, 5 + 4 * fabric[3])
    _, pins, turns = routes
    if turns and source.randrange(2):
        at = source.randrange(len(turns))
        return ("routes", pins, turns[:at] + ((turns[at][0], selector),) + turns[at + 1:])
    if not pins:
        return routes
    at = source.randrange(len(pins))
    pin = source.randrange(fabric[4])
    row = pins[at][:pin] + (selector,) + pins[at][pin + 1:]
    return ("routes", pins[:at] + (row,) + pins[at + 1:], turns)


def more_turns(source, fabric, routes):
    """The routing with one more turn, in order."""
    x, y = source.choice(slow_tiles(fabric))
    turns = dict(routes[2])
    turns[(x, y, source.randrange(4), source.randrange(fabric[3]))] = source.randrange(1, 3 + 4 * fabric[3])
    return ("routes", routes[1], tuple(sorted(turns.items())))


class TraceTest(unittest.TestCase):
    def traced(self, x, selector, routes=ROUTES, cells=CELLS):
        return source_of(FABRIC, cells, PLACES, routes, x, 0, selector)

    def test_own_tile(self):
        self.assertEqual(self.traced(0, 1), ("out", 0))
        self.assertEqual(self.traced(2, 1), ("out", 1))
        self.assertEqual(self.traced(2, 2), ("reg", 1))

    def test_ways(self):
        self.assertEqual(self.traced(0, 10), ("in", 0))
        self.assertEqual(self.traced(1, 7), ("in", 1))
        self.assertEqual(self.traced(0, 5), ("reg", 1))
        self.assertEqual(self.traced(1, 5), ("reg", 1))
        self.assertEqual(self.traced(1, 9), ("out", 0))
        self.assertEqual(self.traced(2, 10), ("out", 0))

    def test_nothing(self):
        """Selectors 0, below 0, and beyond 2 + 4 * tracks."""
        for selector in (0, -1, -2, -1000000, 11, 12, 1000000):
            for x in range(3):
                self.assertIsNone(self.traced(x, selector))
        self.assertIsNotNone(self.traced(0, 10))
        self.assertIsNotNone(self.traced(2, 10))

    def test_tiles_without_a_cell(self):
        self.assertIsNone(self.traced(1, 1))
        self.assertIsNone(self.traced(1, 2))
        turns = (((1, 0, 1, 0), 1), ((1, 0, 3, 0), 2))
        self.assertIsNone(self.traced(0, 5, ("routes", PINS, turns)))
        self.assertIsNone(self.traced(2, 9, ("routes", PINS, turns)))

    def test_registers_of_cells_without_one(self):
        self.assertIsNone(self.traced(0, 2))
        self.assertIsNone(self.traced(1, 9, ("routes", PINS, (((0, 0, 1, 0), 2),))))

    def test_tables_of_cells_without_one(self):
        """A register's cell has a table of its own."""
        self.assertEqual(self.traced(1, 5, ("routes", PINS, (((2, 0, 3, 0), 1),))), ("out", 1))

    def test_pads_of_no_input(self):
        for x, selector in ((0, 3), (0, 4), (0, 7), (0, 8), (0, 9), (1, 3), (1, 4), (1, 8), (2, 5), (2, 6), (2, 7)):
            self.assertIsNone(self.traced(x, selector))
        # An output's pad is no input.
        places = PLACES[:2] + (((0, 0, 3, 1), (0, 0, 0, 0)),) + PLACES[3:]
        self.assertIsNone(source_of(FABRIC, CELLS, places, ROUTES, 1, 0, 7))

    def test_wires_that_are_not_used(self):
        self.assertIsNone(self.traced(1, 10))
        self.assertIsNone(self.traced(0, 6))
        self.assertIsNone(self.traced(1, 5, ("routes", PINS, ())))

    def test_rings(self):
        """Wires that select each other, or what leads back to themselves, and what leads there."""
        turns = (((0, 0, 1, 0), 5), ((1, 0, 3, 0), 9))
        self.assertIsNone(self.traced(0, 5, ("routes", PINS, turns)))
        self.assertIsNone(self.traced(1, 9, ("routes", PINS, turns)))
        turns = (((0, 0, 1, 0), 5), ((1, 0, 1, 0), 9), ((1, 0, 3, 0), 9))
        self.assertIsNone(self.traced(2, 9, ("routes", PINS, turns)))

    def test_a_long_way(self):
        """Through all wires of a fabric, to and fro."""
        fabric = ("fabric", 8, 1, 12, 2)
        cells = ("cells", ("a",), (), (("y", ("in", 0)),))
        places = ("places", (), ((0, 0, 0, 0),), ((0, 0, 3, 0),))
        turns = {}
        selector = 3
        for track in range(12):
            for x in list(range(7)) + list(range(7, 0, -1)):
                side = 1 if (x, 0, 1, track) not in turns and x < 7 else 3
                turns[(x, 0, side, track)] = selector
                selector = 3 + (side + 2) % 4 * 12 + track
        turns[(0, 0, 3, 0)] = selector
        routes = ("routes", (), tuple(sorted(turns.items())))
        self.assertEqual(source_of(fabric, cells, places, routes, 0, 0, selector), ("in", 0))
        self.assertIs(judge_routes(fabric, cells, places, routes), True)
        self.assertIs(slow_judge_routes(fabric, cells, places, routes), True)

    def test_random(self):
        counted = {}
        for seed in range(300):
            source = random.Random(seed)
            fabric, cells, places = random_placed(source, columns=3, rows=3, tracks=3)
            turns = {}
            for _ in range(source.randrange(30)):
                x, y = source.choice(slow_tiles(fabric))
                wire = (x, y, source.randrange(4), source.randrange(fabric[3]))
                turns[wire] = source.choice((1, 2, source.randrange(-1, 5 + 4 * fabric[3])))
            routes = ("routes", (), tuple(sorted(turns.items())))
            for x, y in slow_tiles(fabric):
                for selector in range(-1, 5 + 4 * fabric[3]):
                    told = source_of(fabric, cells, places, routes, x, y, selector)
                    self.assertEqual(told, slow_trace(fabric, cells, places, routes[2], x, y, selector)[0])
                    counted[told and told[0]] = counted.get(told and told[0], 0) + 1
        self.assertEqual(sorted(map(str, counted)), ["None", "in", "out", "reg"])
        self.assertGreater(min(counted.values()), 300)


class JudgeTest(unittest.TestCase):
    def good(self, routes, cells=CELLS, places=PLACES):
        self.assertIs(judge_routes(FABRIC, cells, places, routes), True, routes)

    def bad(self, routes, cells=CELLS, places=PLACES):
        self.assertIs(judge_routes(FABRIC, cells, places, routes), False, routes)

    def test_by_hand(self):
        self.good(ROUTES)
        self.bad(("route",) + ROUTES[1:])
        self.bad(("", PINS, TURNS))
        self.bad(("routes", (), ()))
        self.bad(("routes", PINS, ()))

    def test_order(self):
        for at in range(1, len(TURNS)):
            self.bad(("routes", PINS, TURNS[:at - 1] + (TURNS[at], TURNS[at - 1]) + TURNS[at + 1:]))
        for at in range(len(TURNS)):
            self.bad(("routes", PINS, TURNS[:at] + TURNS[at:at + 1] + TURNS[at:]))
            self.bad(("routes", PINS, TURNS[:at] + TURNS[at + 1:]))

    def test_pins(self):
        for pins in ((), PINS[:1], PINS + ((0, 0),), PINS[::-1], ((10, 5, 0), (10, 0)), ((10, 5), (10,)),
                     ((10,), (10, 0)), ((10, 5), (10, 0, 0)), ((), (10, 0)), ((5, 10), (10, 0)), ((10, 5), (0, 10)),
                     ((10, 5), (10, 10)), ((10, 5), (10, 1)), ((10, 5), (10, -1)), ((10, 5), (10, 11)),
                     ((10, 0), (10, 0)), ((0, 5), (10, 0)), ((-7, 5), (10, 0))):
            self.bad(("routes", pins, TURNS))

    def test_selectors_of_turns(self):
        self.bad(("routes", PINS, TURNS[:-1] + (((2, 0, 3, 0), 0),)))
        for selector in (-1, 1, 11, 1000000, -1000000):
            self.bad(("routes", PINS, TURNS[:-1] + (((2, 0, 3, 0), selector),)))

    def test_wires_that_do_not_exist(self):
        for wire in ((-1, 0, 0, 0), (3, 0, 0, 0), (0, -1, 0, 0), (2, 1, 0, 0), (2, 0, 4, 0), (0, 0, -1, 0), (2, 0, 3, 2),
                     (0, 0, 0, -1), (1000000, 0, 0, 0), (0, 0, 0, -1000000)):
            for selector in (0, 1, 2, 5, 10):
                self.bad(("routes", PINS, tuple(sorted(TURNS + ((wire, selector),)))))

    def test_wires_that_nothing_meets(self):
        for turn in (((0, 0, 0, 0), 1), ((0, 0, 1, 1), 1), ((1, 0, 0, 0), 5), ((1, 0, 3, 1), 5), ((2, 0, 1, 0), 2),
                     ((2, 0, 3, 1), 2)):
            self.bad(("routes", PINS, tuple(sorted(TURNS + (turn,)))))
        # Two that hang on each other.
        self.bad(("routes", PINS, tuple(sorted(TURNS + (((0, 0, 1, 1), 6), ((1, 0, 3, 1), 10))))))

    def test_several_ways(self):
        """A net can use two wires of a side, and go to and fro."""
        turns = dict(TURNS)
        turns[(2, 0, 3, 1)] = 2
        turns[(1, 0, 0, 1)] = 6
        self.good(("routes", PINS, tuple(sorted(turns.items()))))
        turns = dict(TURNS)
        turns[(0, 0, 1, 1)] = 5
        turns[(1, 0, 0, 1)] = 10
        self.good(("routes", PINS, tuple(sorted(turns.items()))))

    def test_a_pad_that_is_not_used(self):
        cells = CELLS[:3] + (CELLS[3] + (("x", ("reg", 1)),),)
        places = PLACES[:3] + (PLACES[3] + ((2, 0, 0, 0),),)
        self.bad(ROUTES, cells, places)
        self.good(("routes", PINS, tuple(sorted(TURNS + (((2, 0, 0, 0), 2),)))), cells, places)
        self.bad(("routes", PINS, tuple(sorted(TURNS + (((2, 0, 0, 0), 1),)))), cells, places)
        self.bad(("routes", PINS, tuple(sorted(TURNS + (((2, 0, 0, 1), 2),)))), cells, places)

    def test_nothing(self):
        cells, places = ("cells", ("a",), (), ()), ("places", (), ((0, 0, 0, 0),), ())
        self.good(("routes", (), ()), cells, places)
        self.bad(("routes", ((0, 0),), ()), cells, places)
        self.bad(("routes", (), (((0, 0, 1, 0), 3),)), cells, places)
        self.bad(("nothing", (), ()), cells, places)

    def test_a_table_that_is_not_the_registers_next(self):
        """A leaf is the ref of the cell: the table of a register's cell is no ref of the cells."""
        cells = ("cells", (), (((("reg", 0),), (0, 1), 1),), (("y", ("reg", 0)),))
        places = ("places", ((0, 0),), (), ((0, 0, 0, 0),))
        self.good(("routes", ((2, 0),), (((0, 0, 0, 0), 2),)), cells, places)
        self.bad(("routes", ((1, 0),), (((0, 0, 0, 0), 2),)), cells, places)
        self.bad(("routes", ((2, 0),), (((0, 0, 0, 0), 1),)), cells, places)

    def test_any_right_routing(self):
        many = 0
        for seed in range(400):
            source = random.Random(seed)
            fabric, cells, places = random_placed(source, columns=4, rows=4, tracks=6)
            routes = random_routes(source, fabric, cells, places)
            if routes is not None:
                many += 1
                self.assertIs(slow_judge_routes(fabric, cells, places, routes), True)
                self.assertIs(judge_routes(fabric, cells, places, routes), True)
        self.assertGreater(many, 200)

    def test_wrong_copies(self):
        counted = {True: 0, False: 0}
        for seed in range(600):
            source = random.Random(seed)
            fabric, cells, places = random_placed(source, columns=3, rows=3, tracks=4)
            routes = random_routes(source, fabric, cells, places)
            if routes is None:
                continue
            at = source.randrange(1, 3)
            row = relisted(source, routes[at])
            others = [
                changed(source, routes), routes[:at] + (row,) + routes[at + 1:], detoured(source, fabric, routes),
                more_turns(source, fabric, routes), detoured(source, fabric, more_turns(source, fabric, routes)),
                ("routes", tuple(relisted(source, row) for row in routes[1]), routes[2]),
            ]
            for other in others:
                told = judge_routes(fabric, cells, places, other)
                self.assertIs(told, slow_judge_routes(fabric, cells, places, other), (fabric, cells, places, other))
                counted[told] += 1
            told = judge_routes(fabric, cells, random_places(source, fabric, cells), routes)
            counted[told] += 1
        self.assertGreater(min(counted.values()), 100)

    def test_the_finders(self):
        for seed in range(100):
            source = random.Random(seed)
            fabric, cells, places = random_placed(source, columns=3, rows=3, tracks=4)
            fabric = fabric[:3] + (12, fabric[4])
            routes = route(fabric, cells, places)
            self.assertIs(slow_judge_routes(fabric, cells, places, routes), True)


if __name__ == "__main__":
    unittest.main()
