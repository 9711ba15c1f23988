"""Told clocks and slow paths."""
import itertools
import random
import unittest

from beatfabric.streams import stream_of
from beatfabric.times import judge_slow_path, slow_path, told_clock
from tests.cellmaking import slow_pads, slow_tiles
from tests.mutants import changed, relisted
from tests.netmaking import is_plain
from tests.slowdevice import links_of, selected, slow_clock, slow_read
from tests.test_device import one_tile, row_of_tiles, some_devices, tile_with
from tests.test_frames import flipped

DELAYS = ("delays", 4, 3, 2, 1)
EXTREMES = [("delays", *row) for row in itertools.product((1, 4), (1, 3), (0, 2), (0, 2))]


def slow_judge(config, outputs, delays, clock, path):
    """The words of the document, one by one."""
    if path == ():
        return clock == 1
    fabric = config[1]
    links = links_of(config)
    _, table, hop, start, setup = delays
    total = 0
    for at, place in enumerate(path):
        word, spot = place[0], place[1:]
        if word == "pad" and spot in slow_pads(fabric):
            if at > 0:
                return False
        elif word == "reg" and spot in slow_tiles(fabric):
            if at > 0:
                return False
            total += start
        elif (word, len(spot)) in (("table", 2), ("wire", 4)) and spot in links:
            some = [other for other in links[spot] if other is not None]
            if at == 0:
                if some:
                    return False
            else:
                if (path[at - 1][0], path[at - 1][1:]) not in some:
                    return False
                total += table if word == "table" else hop
        else:
            return False
    word, spot = path[-1][0], path[-1][1:]
    if word == "table" and spot in slow_read(config):
        total += setup
    elif not (word == "wire" and spot in outputs):
        return False
    return total == clock


def random_path(source, config, outputs):
    """A path that ends well, as far as it goes."""
    links = links_of(config)
    ends = [("wire",) + pad for pad in outputs] + [("table",) + tile for tile in slow_read(config)]
    if not ends:
        return ()
    path = [source.choice(ends)]
    while path[0][0] in ("wire", "table"):
        some = [other for other in links[path[0][1:]] if other is not None]
        if not some:
            break
        word, place = source.choice(some)
        path.insert(0, (word,) + place)
    return tuple(path)


def sum_of(path, delays):
    _, table, hop, start, setup = delays
    total = start if path[0][0] == "reg" else 0
    for place in path[1:]:
        total += table if place[0] == "table" else hop
    return total + (setup if path[-1][0] == "table" else 0)


def reworded(source, path):
    """The path with another word at one of its places, or with a place of another length."""
    if not path:
        return path
    at = source.randrange(len(path))
    place = path[at]
    if source.randrange(2):
        place = (source.choice(("pad", "reg", "table", "wire", "", "wires")),) + place[1:]
    else:
        place = place[:3] if len(place) == 5 else place + (source.randrange(4), 0)
    return path[:at] + (place,) + path[at + 1:]


class ClockTest(unittest.TestCase):
    def test_at_least_1(self):
        """What selects nothing has the arrival 0, an input pad, too."""
        for delays in EXTREMES:
            self.assertEqual(told_clock(one_tile(), (), delays), 1)
            self.assertEqual(told_clock(one_tile(), ((0, 0, 0, 0),), delays), 1)
            self.assertEqual(slow_path(one_tile(), ((0, 0, 0, 0),), delays), ())

    def test_wires(self):
        stream = row_of_tiles(tile_with(turns=(((1, 0), 3),)), tile_with(turns=(((1, 0), 6), ((0, 0), 2))))
        for delays in EXTREMES:
            _, _, hop, start, setup = delays
            self.assertEqual(told_clock(stream, ((1, 0, 1, 0),), delays), max(2 * hop, setup))
            self.assertEqual(told_clock(stream, ((1, 0, 0, 0),), delays), max(hop + start, setup))
            self.assertEqual(told_clock(stream, ((1, 0, 1, 0), (1, 0, 0, 0)), delays), max(2 * hop, hop + start, setup))

    def test_wires_that_select_nothing(self):
        """They count from 0 on: what selects them has its own delay only."""
        stream = row_of_tiles(tile_with(), tile_with(turns=(((1, 0), 6),)))
        for delays in EXTREMES:
            self.assertEqual(told_clock(stream, ((1, 0, 1, 0),), delays), delays[2])
        path = slow_path(stream, ((1, 0, 1, 0),), DELAYS)
        self.assertEqual(path, (("wire", 0, 0, 1, 0), ("wire", 1, 0, 1, 0)))

    def test_tables(self):
        """A table that no pin selects anything for has the arrival 0."""
        for pins, told in (((), 0), ((0, 0), 0), ((7, 7), 0), ((3, 0), 4), ((2, 3), 6), ((0, 2), 6)):
            stream = one_tile(pins=pins, turns=(((1, 0), 1),))
            path = slow_path(stream, ((0, 0, 1, 0),), DELAYS)
            self.assertEqual(told_clock(stream, ((0, 0, 1, 0),), DELAYS), told + 3)
            self.assertIs(judge_slow_path(stream, ((0, 0, 1, 0),), DELAYS, told + 3, path), True)

    def test_read_registers(self):
        """The setup counts if a pin or a wire of the tile selects the register, though nothing needs that wire."""
        for turns, pins, told in (((((0, 0), 2),), (3,), 5), ((), (3,), 1), ((), (3, 2), 7), ((), (2,), 7)):
            stream = one_tile(pins=pins, turns=turns)
            self.assertEqual(told_clock(stream, (), DELAYS), told)
        stream = one_tile(turns=(((0, 0), 2),))
        self.assertEqual([told_clock(stream, (), delays) for delays in EXTREMES[:2]], [1, 2])
        self.assertEqual(slow_path(stream, (), EXTREMES[1]), (("table", 0, 0),))

    def test_wires_that_nothing_needs(self):
        """A slow wire that is no output does not count."""
        stream = row_of_tiles(tile_with(turns=(((1, 0), 3),)), tile_with(turns=(((1, 0), 6),)))
        self.assertEqual(told_clock(stream, (), DELAYS), 1)
        self.assertEqual(told_clock(stream, ((0, 0, 0, 0),), DELAYS), 1)

    def test_random(self):
        found = set()
        for source, config, inputs, outputs in some_devices(200):
            stream = stream_of(config)
            delays = source.choice(EXTREMES)
            clock = told_clock(stream, outputs, delays)
            self.assertEqual(clock, slow_clock(config, outputs, delays))
            self.assertEqual(told_clock(stream, outputs, delays), clock)
            self.assertEqual(told_clock(flipped(stream, source.randrange(len(stream))), outputs, delays), clock)
            path = slow_path(stream, outputs, delays)
            self.assertEqual(slow_path(stream, outputs, delays), path)
            self.assertIs(is_plain(path), True)
            self.assertIs(judge_slow_path(stream, outputs, delays, clock, path), True)
            self.assertIs(slow_judge(config, outputs, delays, clock, path), True)
            found.add(clock)
        self.assertGreater(len(found), 12)


class JudgeTest(unittest.TestCase):
    STREAM = row_of_tiles(
        tile_with(pins=(2, 4), turns=(((1, 0), 1), ((0, 0), 2))), tile_with(turns=(((3, 0), 4), ((1, 0), 6))),
    )
    OUTPUTS = ((1, 0, 1, 0),)
    PATH = (("reg", 0, 0), ("table", 0, 0), ("wire", 0, 0, 1, 0), ("wire", 1, 0, 1, 0))

    def judged(self, clock, path, outputs=OUTPUTS, stream=STREAM):
        return judge_slow_path(stream, outputs, DELAYS, clock, path)

    def test_by_hand(self):
        self.assertIs(self.judged(2 + 4 + 3 + 3, self.PATH), True)
        self.assertEqual(told_clock(self.STREAM, self.OUTPUTS, DELAYS), 13)
        path = (("pad", 1, 0, 1, 0), ("wire", 1, 0, 3, 0), ("table", 0, 0), ("wire", 0, 0, 1, 0), ("wire", 1, 0, 1, 0))
        self.assertIs(self.judged(0 + 3 + 4 + 3 + 3, path), True)
        self.assertIs(self.judged(0 + 3 + 4 + 1, path[:3]), True)
        self.assertIs(self.judged(2 + 4 + 1, self.PATH[:2]), True)
        for clock in range(-1, 20):
            self.assertIs(self.judged(clock, self.PATH), clock == 12)
            self.assertIs(self.judged(clock, path[:3]), clock == 8)
        for clock in (-1000000, -12, 1000000):
            self.assertIs(self.judged(clock, self.PATH), False)

    def test_the_empty_path(self):
        for clock in (-1000000, -1, 0, 2, 12, 13, 1000000):
            self.assertIs(self.judged(clock, ()), False)
        self.assertIs(self.judged(1, ()), True)
        self.assertIs(self.judged(1, (), (), one_tile()), True)

    def test_beginnings(self):
        for path in (self.PATH[1:], self.PATH[2:], self.PATH[3:], (("wire", 1, 0, 3, 0),) + self.PATH[1:]):
            self.assertFalse(any(self.judged(clock, path) for clock in range(20)))
        # What selects nothing begins a path, though alone.
        stream = one_tile(turns=(((0, 0), 2),))
        self.assertIs(self.judged(0, (("wire", 0, 0, 1, 0),), ((0, 0, 1, 0),), stream), True)
        self.assertIs(self.judged(1, (("wire", 0, 0, 1, 0),), ((0, 0, 1, 0),), stream), False)
        self.assertIs(self.judged(0, (("wire", 0, 0, 1, 0),), ((0, 0, 2, 0),), stream), False)
        self.assertIs(self.judged(1, (("table", 0, 0),), (), stream), True)
        self.assertIs(self.judged(0, (("table", 0, 0),), (), stream), False)
        self.assertIs(self.judged(1, (("table", 0, 0),), (), one_tile()), False)

    def test_ends(self):
        """A wire that is no output that is shown, a table whose register is not read, a pad, a register."""
        self.assertIs(self.judged(12, self.PATH, ()), False)
        self.assertIs(self.judged(12, self.PATH, ((1, 0, 0, 0), (0, 0, 0, 0))), False)
        for clock in range(12):
            self.assertIs(self.judged(clock, self.PATH[:3]), False)
            self.assertIs(self.judged(clock, self.PATH[:1]), False)
            self.assertIs(self.judged(clock, (("pad", 1, 0, 1, 0),)), False)
        stream = row_of_tiles(tile_with(pins=(4,)), tile_with(turns=(((3, 0), 4),)))
        path = (("pad", 1, 0, 1, 0), ("wire", 1, 0, 3, 0), ("table", 0, 0))
        self.assertFalse(any(self.judged(clock, path, (), stream) for clock in range(12)))

    def test_links(self):
        """Each place selects the one ahead of it, of its own tile or the one there."""
        for at in range(len(self.PATH)):
            for other in (self.PATH[:at] + self.PATH[at + 1:], self.PATH[:at] + self.PATH[at:at + 1] + self.PATH[at:]):
                self.assertFalse(any(self.judged(clock, other) for clock in range(25)), other)
        self.assertFalse(any(self.judged(clock, self.PATH[::-1]) for clock in range(25)))
        self.assertFalse(any(self.judged(clock, (("reg", 1, 0),) + self.PATH[1:]) for clock in range(25)))

    def test_places_that_do_not_exist(self):
        for word in ("pad", "reg", "table", "wire", "", "in"):
            for spot in ((), (0,), (0, 0), (0, 0, 0, 0), (-1, 0), (2, 0), (0, 1), (0, -1), (-1, 0, 1, 0), (1, 0, 1, 1),
                         (1, 0, 4, 0), (1, 0, -1, 0), (1, 0, 1, -1), (1000000, 0, 1, 0), (1, 0, 1, 0, 0)):
                place = (word,) + spot
                for path in ((place,), (place,) + self.PATH[1:], self.PATH[:3] + (place,), self.PATH[:1] + (place,)):
                    good = path in ((("reg", 0, 0),) + self.PATH[1:], self.PATH[:3] + (("wire", 1, 0, 1, 0),),
                                    self.PATH[:2])
                    told = [clock for clock in range(-1, 20) if self.judged(clock, path)]
                    self.assertEqual(bool(told), good, path)

    def test_wrong_copies(self):
        counted = {True: 0, False: 0}
        for source, config, inputs, outputs in some_devices(600, 3, 2, 2):
            stream = stream_of(config)
            delays = ("delays", source.randrange(1, 5), source.randrange(1, 4), source.randrange(3), source.randrange(3))
            for _ in range(3):
                path = random_path(source, config, outputs)
                if path:
                    self.assertIs(judge_slow_path(stream, outputs, delays, sum_of(path, delays), path), True)
                for other in (path, changed(source, path), relisted(source, path), reworded(source, path)):
                    clock = sum_of(other, delays) if other else 1
                    clock += source.choice((0, 0, 0, 1, -1))
                    told = judge_slow_path(stream, outputs, delays, clock, other)
                    self.assertIs(told, slow_judge(config, outputs, delays, clock, other), (config, clock, other))
                    counted[told] += 1
        self.assertGreater(min(counted.values()), 1000)

    def test_no_path_is_longer_than_the_told_clock(self):
        for source, config, inputs, outputs in some_devices(100):
            delays = source.choice(EXTREMES)
            clock = told_clock(stream_of(config), outputs, delays)
            for _ in range(10):
                path = random_path(source, config, outputs)
                self.assertLessEqual(sum_of(path, delays) if path else 1, clock)

    def test_selected(self):
        """The helper of these tests agrees with the document's example of numbers."""
        self.assertEqual(selected(("fabric", 2, 1, 3, 2), 0, 0, 3 + 1 * 3 + 2), ("wire", (1, 0, 3, 2)))


if __name__ == "__main__":
    unittest.main()
