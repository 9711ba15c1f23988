"""Clocked devices, moment by moment."""
import itertools
import random
import unittest

from beatfabric.clocked import Clocked
from beatfabric.device import Device
from beatfabric.streams import stream_of
from beatfabric.times import told_clock
from tests.slowdevice import SlowClocked, SlowDevice, random_config, slow_arrivals
from tests.test_device import one_tile, row_of_tiles, some_devices, tile_with
from tests.test_frames import flipped
from tests.test_times import EXTREMES

ALL_ONES = 2 ** 30 - 1
EAST_PAD = ((0, 0, 1, 0),)


def any_delays(source):
    return ("delays", source.randrange(1, 5), source.randrange(1, 4), source.randrange(3), source.randrange(3))


def noise_with(*numbers):
    return sum(2 ** number for number in numbers)


class ByHandTest(unittest.TestCase):
    def test_a_wire(self):
        """It shows what the pad had a hop ahead of the end of the beat."""
        stream = one_tile(turns=(((1, 0), 3),))
        pads = ((0, 0, 0, 0),)
        rows = ((1,), (0,), (1,), (1,), (0,))
        for hop in (1, 2, 3):
            delays = ("delays", 1, hop, 0, 0)
            for period in range(hop, hop + 3):
                told = list(Clocked(stream, pads, EAST_PAD, delays, period).beats(rows))
                self.assertEqual(told, list(rows))
        # With a period of 1 the input of two beats ago stands there, first the noise of the wire's pad.
        for noise in (0, noise_with(2)):
            told = list(Clocked(stream, pads, EAST_PAD, ("delays", 1, 3, 0, 0), 1, noise).beats(rows))
            self.assertEqual(told, [(int(noise > 0),)] * 2 + list(rows[:3]))
        told = list(Clocked(stream, pads, EAST_PAD, ("delays", 1, 3, 0, 0), 2, noise_with(2)).beats(rows))
        self.assertEqual(told, [(1,)] + list(rows[:4]))

    def test_noise_of_pads(self):
        """A pad that is none of the device's has noise ahead of the moment 0, then 0."""
        stream = one_tile(turns=(((1, 0), 3),))
        for noise in (0, noise_with(2), noise_with(2, 3), ALL_ONES):
            told = list(Clocked(stream, (), EAST_PAD, ("delays", 1, 3, 0, 0), 1, noise).beats(((),) * 4))
            self.assertEqual(told, [(noise >> 2 & 1,)] * 2 + [(0,)] * 2)

    def test_wires_that_select_nothing(self):
        """0 from the moment 0 on, whatever the noise is; what selects them shows their noise for a while."""
        stream = one_tile()
        self.assertEqual(list(Clocked(stream, (), EAST_PAD, EXTREMES[0], 1, ALL_ONES).beats(((),) * 3)), [(0,)] * 3)
        stream = row_of_tiles(tile_with(), tile_with(turns=(((1, 0), 6),)))
        told = list(Clocked(stream, (), ((1, 0, 1, 0),), ("delays", 1, 3, 0, 0), 1, noise_with(3)).beats(((),) * 4))
        self.assertEqual(told, [(1,), (1,), (0,), (0,)])
        # The wire (0, 0, 1, 0) has the number 3.
        told = list(Clocked(stream, (), ((1, 0, 1, 0),), ("delays", 1, 3, 0, 0), 1, ALL_ONES - 8).beats(((),) * 4))
        self.assertEqual(told, [(0,)] * 4)

    def test_tables(self):
        """A pin that selects nothing is 0 at all moments; a table is noise below 0 only."""
        for bits in ((0, 1, 1, 1), (1, 0, 0, 0)):
            stream = one_tile(bits=bits, turns=(((1, 0), 1),))
            told = list(Clocked(stream, (), EAST_PAD, ("delays", 4, 3, 0, 0), 1, ALL_ONES).beats(((),) * 4))
            self.assertEqual(told, [(1,), (1,), (bits[0],), (bits[0],)])

    def test_registers(self):
        """Content, start delay and setup; its noise has the number 1."""
        stream = one_tile(bits=(1, 0, 1, 0), start=1, pins=(2,), turns=(((1, 0), 2),))
        self.assertEqual(told_clock(stream, EAST_PAD, ("delays", 2, 1, 1, 1)), 4)
        for noise in (0, ALL_ONES):
            told = list(Clocked(stream, (), EAST_PAD, ("delays", 2, 1, 1, 1), 4, noise).beats(((),) * 4))
            self.assertEqual(told, [(1,), (0,), (1,), (0,)])
        # A period of 1: the register's bit of the moment (b + 1) - hop - start, here b - 2.
        for noise in (0, noise_with(1)):
            told = list(Clocked(stream, (), EAST_PAD, ("delays", 4, 1, 2, 0), 1, noise).beats(((),) * 3))
            self.assertEqual(told, [(int(noise > 0),), (int(noise > 0),), (1,)])

    def test_setup_ahead_of_the_first_moment(self):
        """The table's noise: with the period 1 and the setup 2 the register takes it in the first beat."""
        stream = one_tile(bits=(0, 0, 0, 0), turns=(((1, 0), 2),))
        for noise in (0, 1, ALL_ONES, ALL_ONES - 1):
            told = list(Clocked(stream, (), EAST_PAD, ("delays", 1, 1, 0, 2), 1, noise).beats(((),) * 4))
            self.assertEqual(told, [(0,), (noise & 1,), (0,), (0,)])

    def test_numbers_of_noise(self):
        """The bit (7x + 3y + j) modulo 30 of the noise."""
        fabric = ("fabric", 8, 8, 3, 2)
        nothing = ((0,) * 4, 0, (0, 0), (0,) * 12)
        for x, y in ((0, 0), (7, 0), (0, 7), (7, 7)):
            side = 1 if x == 7 else 3
            for selector, j in ((1, 0), (2, 1), (3 + side * 3 + 2, 2 + side * 3 + 2)):
                turns = tuple(selector if at == side * 3 else 0 for at in range(12))
                tiles = [nothing] * 64
                tiles[8 * y + x] = ((0,) * 4, 0, (0, 0), turns)
                stream = stream_of(("config", fabric, tuple(tiles)))
                for at in range(30):
                    run = Clocked(stream, (), ((x, y, side, 0),), ("delays", 4, 3, 2, 0), 1, 2 ** at)
                    self.assertEqual(run.beat(()), (int((7 * x + 3 * y + j) % 30 == at),))

    def test_the_default_noise(self):
        stream = one_tile(turns=(((1, 0), 3),))
        self.assertEqual(Clocked(stream, (), EAST_PAD, ("delays", 1, 3, 0, 0), 1).beat(()), (0,))

    def test_no_pads(self):
        run = Clocked(one_tile(), (), (), EXTREMES[0], 5, ALL_ONES)
        self.assertEqual(list(run.beats(((), ()))), [(), ()])


class SlowTest(unittest.TestCase):
    def check(self, source, config, inputs, outputs, delays, period, noise, many):
        run = Clocked(stream_of(config), inputs, outputs, delays, period, noise)
        slow = SlowClocked(config, delays, period, noise)
        for _ in range(many):
            row = tuple(source.randrange(2) for _ in inputs)
            self.assertEqual(run.beat(row), slow.beat(dict(zip(inputs, row)), outputs))

    def test_any_period(self):
        """Also periods that are too short."""
        for source, config, inputs, outputs in some_devices(150):
            delays = source.choice(EXTREMES + [any_delays(source)])
            noise = source.choice((0, ALL_ONES, source.randrange(2 ** 30)))
            self.check(source, config, inputs, outputs, delays, source.randrange(1, 12), noise, 8)

    def test_greater_delays(self):
        """Somewhat beyond their limits."""
        for source, config, inputs, outputs in some_devices(40):
            delays = ("delays", source.randrange(1, 8), source.randrange(1, 8), source.randrange(8), source.randrange(8))
            noise = source.randrange(2 ** 32)
            self.check(source, config, inputs, outputs, delays, source.randrange(1, 12), noise, 6)

    def test_all_short_periods(self):
        for source, config, inputs, outputs in some_devices(12):
            for period in range(1, 25):
                self.check(source, config, inputs, outputs, any_delays(source), period, source.randrange(2 ** 30), 6)

    def test_long_periods(self):
        for source, config, inputs, outputs in some_devices(10):
            for period in (50, 199, 200):
                self.check(source, config, inputs, outputs, any_delays(source), period, source.randrange(2 ** 30), 4)

    def test_deep_ways(self):
        """Many wires one behind the other: with the period 1 what is shown is hundreds of beats old."""
        tiles = [tile_with(tracks=2, turns=(((1, 0), 3), ((3, 0), 3)))]
        tiles[0] = tile_with(tracks=2, turns=(((1, 0), 3), ((1, 1), 5), ((3, 0), 6)))
        for _ in range(6):
            tiles.append(tile_with(tracks=2, turns=(((1, 0), 9), ((3, 0), 5), ((1, 1), 10), ((3, 1), 6))))
        tiles.append(tile_with(tracks=2, turns=(((3, 0), 9), ((3, 1), 10))))
        stream = row_of_tiles(*tiles, tracks=2)
        pads, shown = ((0, 0, 0, 0),), ((0, 0, 3, 0),)
        delays = ("delays", 1, 3, 0, 0)
        clock = told_clock(stream, shown, delays)
        self.assertEqual(clock, 29 * 3)
        source = random.Random(1)
        rows = [(source.randrange(2),) for _ in range(150)]
        told = list(Clocked(stream, pads, shown, delays, 1).beats(rows))
        self.assertEqual(told[clock - 1:], rows[:len(rows) - clock + 1])
        self.assertEqual(told[:clock - 1], [(0,)] * (clock - 1))
        for period in (clock, clock + 1, 200):
            self.assertEqual(list(Clocked(stream, pads, shown, delays, period, ALL_ONES).beats(rows)), rows)

    def test_mended_streams(self):
        for source, config, inputs, outputs in some_devices(15):
            stream = stream_of(config)
            wrong = flipped(stream, source.randrange(len(stream)))
            rows = [tuple(source.randrange(2) for _ in inputs) for _ in range(5)]
            delays = any_delays(source)
            self.assertEqual(list(Clocked(wrong, inputs, outputs, delays, 3, 12345).beats(rows)),
                             list(Clocked(stream, inputs, outputs, delays, 3, 12345).beats(rows)))


class ToldClockTest(unittest.TestCase):
    """From the told clock on a clocked device shows what the device shows, whatever the noise is."""

    def test_the_same_as_the_device(self):
        for source, config, inputs, outputs in some_devices(120):
            stream = stream_of(config)
            delays = source.choice(EXTREMES + [any_delays(source)])
            clock = told_clock(stream, outputs, delays)
            rows = [tuple(source.randrange(2) for _ in inputs) for _ in range(8)]
            told = list(Device(stream, inputs, outputs).beats(rows))
            for period in (clock, clock + 1, clock + source.randrange(20), 200):
                for noise in (0, ALL_ONES, source.randrange(2 ** 30)):
                    run = Clocked(stream, inputs, outputs, delays, period, noise)
                    self.assertEqual(list(run.beats(rows)), told)

    def test_every_noise_bit(self):
        for source, config, inputs, outputs in some_devices(6):
            stream = stream_of(config)
            delays = any_delays(source)
            clock = told_clock(stream, outputs, delays)
            rows = [tuple(source.randrange(2) for _ in inputs) for _ in range(4)]
            told = list(Device(stream, inputs, outputs).beats(rows))
            for at in range(30):
                self.assertEqual(list(Clocked(stream, inputs, outputs, delays, clock, 2 ** at).beats(rows)), told)

    def test_a_period_that_is_one_too_short(self):
        """Some device shows something else then: the told clock is not too long for all of them."""
        parted = 0
        for source, config, inputs, outputs in some_devices(100):
            stream = stream_of(config)
            delays = any_delays(source)
            clock = told_clock(stream, outputs, delays)
            if clock == 1:
                continue
            rows = [tuple(source.randrange(2) for _ in inputs) for _ in range(20)]
            told = list(Device(stream, inputs, outputs).beats(rows))
            for noise in (0, ALL_ONES):
                parted += list(Clocked(stream, inputs, outputs, delays, clock - 1, noise).beats(rows)) != told
        self.assertGreater(parted, 10)

    def test_arrivals(self):
        """From its arrival on up to the end of the beat every element has its bit in the device."""
        for source, config, inputs, outputs in some_devices(40, 2, 2, 2):
            delays = any_delays(source)
            period = told_clock(stream_of(config), outputs, delays) + source.randrange(3)
            slow = SlowClocked(config, delays, period, source.randrange(2 ** 30))
            device = SlowDevice(config)
            arrivals = slow_arrivals(config, delays)
            for beat in range(4):
                pads = {pad: source.randrange(2) for pad in inputs}
                slow.beat(pads, outputs)
                device.beat(pads, outputs)
                for (word, place), bit in device.shown.items():
                    for moment in range(beat * period + arrivals[place], (beat + 1) * period):
                        self.assertEqual(slow.bit(word, place, moment), bit)


class RunTest(unittest.TestCase):
    STREAM = one_tile(bits=(0, 1, 1, 0), pins=(2, 3), turns=(((1, 0), 2),))

    def test_beats_are_done_when_asked_for(self):
        run = Clocked(self.STREAM, ((0, 0, 0, 0),), EAST_PAD, ("delays", 1, 1, 0, 0), 3)
        beats = run.beats([(1,), (1,), (0,)])
        self.assertEqual(next(beats), (0,))
        self.assertEqual(run.beat((0,)), (1,))
        self.assertEqual(list(beats), [(1,), (0,)])

    def test_two_runs(self):
        one = Clocked(self.STREAM, ((0, 0, 0, 0),), EAST_PAD, ("delays", 1, 1, 0, 0), 3)
        other = Clocked(self.STREAM, ((0, 0, 0, 0),), EAST_PAD, ("delays", 1, 1, 0, 0), 3)
        self.assertEqual([one.beat((1,)), one.beat((0,)), other.beat((0,)), other.beat((0,))],
                         [(0,), (1,), (0,), (0,)])

    def test_inputs_and_rows(self):
        stream = row_of_tiles(tile_with(bits=(0, 1, 1, 0), pins=(3, 5), turns=(((0, 0), 1),)), tile_with())
        pads = ((0, 0, 2, 0), (0, 0, 0, 0), (1, 0, 0, 0))
        run = Clocked(stream, pads, ((0, 0, 0, 0),), ("delays", 2, 1, 0, 0), 3)
        for row in itertools.product((0, 1), repeat=3):
            self.assertEqual(run.beat(row), (row[0] ^ row[1],))

    def test_the_largest_fabric(self):
        config = random_config(random.Random(3), ("fabric", 3, 3, 12, 4), idle=12)
        stream = stream_of(config)
        outputs = tuple((x, 0, 0, track) for x in range(3) for track in range(12))
        clock = told_clock(stream, outputs, ("delays", 4, 3, 2, 2))
        run = Clocked(stream, (), outputs, ("delays", 4, 3, 2, 2), clock, ALL_ONES)
        self.assertEqual(list(run.beats(((),) * 4)), list(Device(stream, (), outputs).beats(((),) * 4)))


if __name__ == "__main__":
    unittest.main()
