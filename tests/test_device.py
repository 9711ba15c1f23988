"""Devices."""
import itertools
import random
import unittest

from beatfabric.cellruns import CellsRun
from beatfabric.configs import config_of
from beatfabric.device import Device
from beatfabric.errors import BadStream, Looped
from beatfabric.routes import judge_routes
from beatfabric.routing import route
from beatfabric.streams import stream_of
from tests.cellmaking import random_fabric, random_placed, random_routes, slow_pads
from tests.slowdevice import SlowDevice, random_config, slow_ring_place
from tests.test_frames import flipped
from tests.test_streams import HEADER, begins, frame_sizes


def tile_with(k=2, tracks=1, bits=None, start=0, pins=(), turns=()):
    """A tile of a configuration; turns are pairs of a side and a track, and a selector."""
    rows = [0] * (4 * tracks)
    for (side, track), selector in turns:
        rows[side * tracks + track] = selector
    return (bits or (0,) * 2 ** k, start, tuple(pins) + (0,) * (k - len(pins)), tuple(rows))


def one_tile(**told):
    return stream_of(("config", ("fabric", 1, 1, told.get("tracks", 1), told.get("k", 2)), (tile_with(**told),)))


def row_of_tiles(*tiles, tracks=1):
    return stream_of(("config", ("fabric", len(tiles), 1, tracks, 2), tiles))


def some_devices(many=120, columns=3, rows=3, tracks=3):
    """Sources, configurations without rings, and pads."""
    for seed in range(many):
        source = random.Random(seed)
        fabric = random_fabric(source, columns, rows, tracks)
        config = random_config(source, fabric, idle=source.choice((2, 4, 12)))
        pads = slow_pads(fabric)
        inputs = tuple(source.sample(pads, source.randrange(len(pads) + 1)))
        outputs = tuple(source.sample(pads, source.randrange(len(pads) + 1)))
        yield source, config, inputs, outputs


class DeviceTest(unittest.TestCase):
    def test_an_inverter(self):
        stream = one_tile(bits=(1, 0, 1, 0), pins=(3,), turns=(((1, 0), 1), ((2, 0), 3), ((3, 0), 0)))
        device = Device(stream, ((0, 0, 0, 0),), ((0, 0, 1, 0), (0, 0, 2, 0), (0, 0, 3, 0)))
        self.assertEqual(list(device.beats(((0,), (1,)))), [(1, 0, 0), (0, 1, 0)])

    def test_a_register(self):
        """A register takes the bit of its table, though nothing reads it."""
        stream = one_tile(bits=(1, 0, 1, 0), start=1, pins=(2,), turns=(((1, 0), 2), ((2, 0), 1)))
        device = Device(stream, (), ((0, 0, 1, 0), (0, 0, 2, 0)))
        self.assertEqual(device.state, (1,))
        self.assertEqual(list(device.beats(((), (), ()))), [(1, 0), (0, 1), (1, 0)])
        self.assertEqual(device.state, (0,))
        stream = one_tile(bits=(1, 1, 1, 1), turns=(((1, 0), 1),))
        device = Device(stream, (), ())
        self.assertEqual(device.beat(()), ())
        self.assertEqual(device.state, (1,))

    def test_pads_that_are_not_given(self):
        """They have 0."""
        stream = one_tile(bits=(1, 0, 1, 0), pins=(3,), turns=(((0, 0), 1), ((1, 0), 3)))
        shown = ((0, 0, 0, 0), (0, 0, 1, 0))
        self.assertEqual(Device(stream, (), shown).beat(()), (1, 0))
        self.assertEqual(Device(stream, ((0, 0, 1, 0),), shown).beat((1,)), (1, 0))
        self.assertEqual(Device(stream, ((0, 0, 1, 0), (0, 0, 0, 0)), shown).beat((0, 1)), (0, 1))

    def test_no_pads(self):
        for source, config, inputs, outputs in some_devices(20):
            stream = stream_of(config)
            device, slow = Device(stream, (), ()), SlowDevice(config)
            for _ in range(4):
                self.assertEqual(device.beat(()), ())
                slow.beat({}, ())
                self.assertEqual(device.state, tuple(slow.regs.values()))
            self.assertEqual(len(Device(stream, (), outputs).beat(())), len(outputs))
            self.assertEqual(Device(stream, inputs, ()).beat((1,) * len(inputs)), ())

    def test_pins_count_from_the_lowest_bit(self):
        for number in range(4):
            bits = tuple(int(at == number) for at in range(4))
            stream = one_tile(bits=bits, pins=(3, 4), turns=(((3, 0), 1),))
            device = Device(stream, ((0, 0, 0, 0), (0, 0, 1, 0)), ((0, 0, 3, 0),))
            for row in itertools.product((0, 1), repeat=2):
                self.assertEqual(device.beat(row), (int(row[0] + 2 * row[1] == number),))

    def test_random(self):
        for source, config, inputs, outputs in some_devices():
            stream = stream_of(config)
            device, slow = Device(stream, inputs, outputs), SlowDevice(config)
            for _ in range(8):
                row = tuple(source.randrange(2) for _ in inputs)
                self.assertEqual(device.beat(row), slow.beat(dict(zip(inputs, row)), outputs))
                self.assertEqual(device.state, tuple(slow.regs.values()))

    def test_wrong_bits_are_mended(self):
        for source, config, inputs, outputs in some_devices(25):
            stream = stream_of(config)
            sizes = frame_sizes(config[1])
            wrong = flipped(stream, *(begin + source.randrange(size) for begin, size in zip(begins(sizes), sizes)))
            rows = [tuple(source.randrange(2) for _ in inputs) for _ in range(5)]
            self.assertEqual(list(Device(wrong, inputs, outputs).beats(rows)),
                             list(Device(stream, inputs, outputs).beats(rows)))

    def test_bad_streams(self):
        """A bad stream is told ahead of a ring."""
        stream = one_tile(pins=(1,))
        with self.assertRaises(Looped):
            Device(stream, (), ())
        for wrong, reason in ((stream[:5], "length"), (stream + (0,), "length"), (flipped(stream, 0, 7), "header"),
                              (flipped(stream, HEADER, HEADER + 1), "frame")):
            with self.assertRaises(BadStream) as caught:
                Device(wrong, (), ())
            self.assertEqual(caught.exception.reason, reason)


class StateTest(unittest.TestCase):
    def setUp(self):
        self.stream = row_of_tiles(
            tile_with(bits=(0, 1, 1, 0), pins=(2, 3), start=1, turns=(((1, 0), 2),)),
            tile_with(bits=(0, 1, 0, 1), pins=(6,), turns=(((0, 0), 2),)),
        )
        self.device = Device(self.stream, ((0, 0, 0, 0),), ((1, 0, 0, 0),))

    def test_state(self):
        device = self.device
        self.assertEqual(device.state, (1, 0))
        self.assertEqual(device.beat((1,)), (0,))
        self.assertEqual(device.state, (0, 1))
        device.state = (1, 1)
        self.assertEqual(device.beat((0,)), (1,))
        self.assertEqual(device.state, (1, 1))
        self.assertIsNone(device.resume((0, 0)))
        self.assertEqual(device.state, (0, 0))
        self.assertEqual(Device(self.stream, (), ()).state, (1, 0))

    def test_two_runs(self):
        other = Device(self.stream, ((0, 0, 0, 0),), ((1, 0, 0, 0),))
        self.device.beat((1,))
        self.assertEqual((self.device.state, other.state), ((0, 1), (1, 0)))

    def test_beats_are_done_when_asked_for(self):
        beats = self.device.beats([(1,), (0,)])
        self.assertEqual(self.device.state, (1, 0))
        self.assertEqual(next(beats), (0,))
        self.assertEqual(self.device.state, (0, 1))
        self.assertEqual(list(beats), [(1,)])

    def test_trial(self):
        with self.device.trial() as held:
            self.assertIs(held, self.device)
            held.beat((1,))
            self.assertEqual(held.state, (0, 1))
        self.assertEqual(self.device.state, (1, 0))
        with self.assertRaises(KeyError):
            with self.device.trial():
                self.device.beat((1,))
                raise KeyError("x")
        self.assertEqual(self.device.state, (1, 0))
        with self.device.trial():
            self.device.beat((1,))
            with self.device.trial():
                self.device.resume((1, 1))
            self.assertEqual(self.device.state, (0, 1))
        self.assertEqual(self.device.state, (1, 0))

    def test_tried(self):
        told = self.device.tried([(1,), (0,), (0,)])
        self.assertEqual(told, ((0,), (1,), (0,)))
        self.assertEqual(self.device.state, (1, 0))
        self.assertEqual(self.device.tried(()), ())
        self.assertEqual(tuple(self.device.beats(((1,), (0,), (0,)))), told)


class RingsTest(unittest.TestCase):
    def looped(self, stream, place, pads=()):
        with self.assertRaises(Looped) as caught:
            Device(stream, pads, pads)
        self.assertEqual(caught.exception.place, place)

    def test_an_element_that_hangs_on_itself(self):
        """A table by any pin, whatever its bits are."""
        for bits in ((0, 0, 0, 0), (0, 1, 1, 0), (1, 1, 1, 1)):
            for pins in ((1,), (0, 1), (1, 1), (3, 1)):
                self.looped(one_tile(bits=bits, pins=pins), (0, 0))

    def test_a_wire_and_what_comes_back(self):
        """Two wires that select each other over one side; a wire of its own side comes back as the pad."""
        self.looped(row_of_tiles(tile_with(turns=(((1, 0), 4),)), tile_with(turns=(((3, 0), 6),))), (0, 0, 1, 0))
        self.looped(row_of_tiles(tile_with(), tile_with(turns=(((1, 0), 4),)), tile_with(turns=(((3, 0), 6),))),
                    (1, 0, 1, 0))
        stream = one_tile(turns=(((0, 0), 3), ((1, 0), 4)))
        self.assertEqual(Device(stream, ((0, 0, 0, 0),), ((0, 0, 0, 0),)).beat((1,)), (1,))

    def test_a_table_and_a_wire(self):
        """A table is less than its tile's wires, and greater than those of tiles ahead of it."""
        self.looped(row_of_tiles(
            tile_with(pins=(4,), turns=(((1, 0), 1),)), tile_with(turns=(((3, 0), 6),)),
        ), (0, 0))
        self.looped(row_of_tiles(
            tile_with(turns=(((1, 0), 4),)), tile_with(pins=(6,), turns=(((3, 0), 1),)),
        ), (0, 0, 1, 0))

    def test_a_register_ends_a_ring(self):
        stream = row_of_tiles(tile_with(pins=(2, 4), turns=(((1, 0), 2),)), tile_with(turns=(((3, 0), 6),)))
        Device(stream, (), ())

    def test_elements_that_only_hang_on_a_ring(self):
        """The least places are not on it; nor is what lies between two rings."""
        stream = row_of_tiles(
            tile_with(pins=(4,), turns=(((0, 0), 4), ((1, 0), 4))), tile_with(turns=(((3, 0), 4), ((0, 0), 1))),
            tile_with(pins=(1,), turns=(((3, 0), 1),)),
        )
        self.looped(stream, (2, 0))
        stream = row_of_tiles(
            tile_with(pins=(4,)), tile_with(turns=(((3, 0), 1),), pins=(4,)), tile_with(pins=(1,), turns=(((3, 0), 1),)),
            tile_with(pins=(1,)),
        )
        self.looped(stream, (2, 0))

    def test_all_tiles_count(self):
        """Also those that no pad of the device depends on."""
        stream = row_of_tiles(tile_with(turns=(((0, 0), 3),)), tile_with(), tile_with(pins=(0, 1)))
        self.looped(stream, (2, 0), ((0, 0, 0, 0),))

    def test_a_long_ring(self):
        """Through all wires of a row and back."""
        tiles = [tile_with(turns=(((1, 0), 6),))]
        tiles[0] = tile_with(turns=(((1, 0), 4),))
        for _ in range(6):
            tiles.append(tile_with(turns=(((1, 0), 6), ((3, 0), 4))))
        tiles.append(tile_with(turns=(((3, 0), 6),)))
        self.looped(row_of_tiles(*tiles), (0, 0, 1, 0))

    def test_random(self):
        """Any selectors, few of which select something."""
        counted = {True: 0, False: 0}
        for seed in range(400):
            source = random.Random(seed)
            fabric = random_fabric(source, 3, 3, 2)
            config = random_config(source, fabric, rings=True, idle=source.choice((1, 2, 2, 3)))
            place = slow_ring_place(config)
            if place is None:
                Device(stream_of(config), (), ())
            else:
                self.looped(stream_of(config), place)
            counted[place is None] += 1
        self.assertGreater(min(counted.values()), 80)

    def test_all_kinds_of_places(self):
        """The least place is one of a table and one of a wire, of any tile."""
        found = set()
        for seed in range(300):
            source = random.Random(seed)
            config = random_config(source, ("fabric", 2, 2, 1, 2), rings=True, idle=2)
            found.add(slow_ring_place(config))
            if slow_ring_place(config) is not None:
                self.looped(stream_of(config), slow_ring_place(config))
        self.assertGreater(len([place for place in found if place and len(place) == 2]), 2)
        self.assertGreater(len([place for place in found if place and len(place) == 4]), 2)

    def test_a_large_fabric_without_rings(self):
        """All wires of the largest fabric one behind the other, in a way that goes through every tile often."""
        fabric = ("fabric", 8, 1, 12, 2)
        tiles = [[0] * 48 for _ in range(8)]
        selector, x = 3, 0
        for track in range(12):
            for at in list(range(7)) + list(range(7, 0, -1)):
                side = 1 if x < 7 and tiles[x][12 + track] == 0 else 3
                tiles[x][side * 12 + track] = selector
                selector = 3 + (side + 2) % 4 * 12 + track
                x += 1 if side == 1 else -1
        tiles[0][3 * 12] = selector
        config = ("config", fabric, tuple(((0, 0, 0, 0), 0, (0, 0), tuple(row)) for row in tiles))
        device = Device(stream_of(config), ((0, 0, 0, 0),), ((0, 0, 3, 0),))
        self.assertEqual(list(device.beats(((1,), (0,), (1,)))), [(1,), (0,), (1,)])
        tiles[0][12] = selector
        self.looped(stream_of(("config", fabric, tuple(((0,) * 4, 0, (0, 0), tuple(row)) for row in tiles))),
                    (0, 0, 1, 0))


class CellsTest(unittest.TestCase):
    """The device of cells, a placement and a routing shows what the cells show."""

    def devices(self, fabric, cells, places, routes):
        self.assertIs(judge_routes(fabric, cells, places, routes), True)
        stream = stream_of(config_of(fabric, cells, places, routes))
        return Device(stream, places[2], places[3]), CellsRun(cells)

    def made(self, many, tracks=8):
        for seed in range(many):
            source = random.Random(seed)
            fabric, cells, places = random_placed(source, columns=4, rows=4, tracks=tracks)
            fabric = fabric[:3] + (12, fabric[4])
            for routes in (route(fabric, cells, places), random_routes(source, fabric, cells, places)):
                if routes is not None:
                    yield source, cells, self.devices(fabric, cells, places, routes)

    def test_beats(self):
        for source, cells, (device, run) in self.made(120):
            for _ in range(12):
                row = tuple(source.randrange(2) for _ in cells[1])
                self.assertEqual(device.beat(row), run.beat(row))

    def test_all_inputs_from_all_states_that_are_reached(self):
        for source, cells, (device, run) in self.made(40):
            seen = {}
            todo = [(device.state, run.state)]
            while todo:
                pair = todo.pop()
                if pair in seen:
                    continue
                seen[pair] = True
                for row in itertools.product((0, 1), repeat=len(cells[1])):
                    device.state, run.state = pair
                    self.assertEqual(device.beat(row), run.beat(row))
                    todo.append((device.state, run.state))


if __name__ == "__main__":
    unittest.main()
