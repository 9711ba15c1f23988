"""Streams."""
import random
import unittest

from beatfabric.errors import BadStream
from beatfabric.frames import frame_of
from beatfabric.streams import configured, inspected, mended, stream_of
from tests.cellmaking import random_fabric
from tests.netmaking import is_plain
from tests.slowdevice import low_first, random_config, selector_width, slow_frame, slow_stream
from tests.test_frames import flipped

HEADER = 18


def frame_sizes(fabric):
    """The sizes of all frames of a stream of a fabric."""
    _, columns, rows, tracks, k = fabric
    many = 2 ** k + 1 + (k + 4 * tracks) * selector_width(fabric)
    return [HEADER] + [len(frame_of((0,) * many))] * (columns * rows)


def begins(sizes):
    return [sum(sizes[:at]) for at in range(len(sizes))]


def header_of(columns, rows, tracks, k):
    return frame_of(low_first(columns, 3) + low_first(rows, 3) + low_first(tracks, 4) + low_first(k, 2))


def some_streams(many=40):
    for seed in range(many):
        source = random.Random(seed)
        fabric = random_fabric(source, columns=3, rows=3, tracks=5)
        config = random_config(source, fabric, rings=True)
        yield source, config, stream_of(config)


class StreamsTest(unittest.TestCase):
    def refused(self, reason, stream, functions=(inspected, mended, configured)):
        for function in functions:
            with self.assertRaises(BadStream) as caught:
                function(stream)
            self.assertEqual(caught.exception.reason, reason)

    def test_by_hand(self):
        config = ("config", ("fabric", 1, 1, 1, 2), (((0, 1, 1, 0), 1, (3, 2), (0, 1, 6, 4)),))
        header = (0,) * 12 + (0,) * 6
        data = (0, 1, 1, 0) + (1,) + (1, 1, 0) + (0, 1, 0) + (0, 0, 0) + (1, 0, 0) + (0, 1, 1) + (0, 0, 1)
        self.assertEqual(stream_of(config), header + slow_frame(data))
        self.assertEqual(configured(stream_of(config)), config)

    def test_header(self):
        config = random_config(random.Random(1), ("fabric", 3, 2, 5, 4))
        self.assertEqual(stream_of(config)[:HEADER], slow_frame((0, 1, 0) + (1, 0, 0) + (0, 0, 1, 0) + (0, 1)))

    def test_there_and_back(self):
        for source, config, stream in some_streams():
            self.assertEqual(stream, slow_stream(config))
            self.assertEqual(stream_of(config), stream)
            self.assertIs(is_plain(stream) and all(bit in (0, 1) for bit in stream), True)
            self.assertEqual(len(stream), sum(frame_sizes(config[1])))
            self.assertEqual(inspected(stream), (("clean",),) * (1 + len(config[2])))
            self.assertEqual(mended(stream), stream)
            told = configured(stream)
            self.assertEqual(told, config)
            self.assertIs(is_plain(told), True)

    def test_all_sizes(self):
        """The selectors have as many bits as 2 + 4 * tracks."""
        for tracks in range(1, 13):
            for k in (2, 3, 4):
                config = random_config(random.Random(tracks), ("fabric", 1, 2, tracks, k), rings=True)
                stream = stream_of(config)
                self.assertEqual(stream, slow_stream(config))
                self.assertEqual(configured(stream), config)
        for columns, rows in ((8, 8), (8, 1), (1, 8)):
            config = random_config(random.Random(1), ("fabric", columns, rows, 1, 2))
            self.assertEqual(configured(stream_of(config)), config)

    def test_the_largest_fabric(self):
        tile = ((1, 0) * 8, 1, (50, 0, 3, 63), (0, 1, 2, 3) * 12)
        config = ("config", ("fabric", 8, 8, 12, 4), (tile,) * 64)
        stream = stream_of(config)
        self.assertEqual(stream, slow_stream(config))
        self.assertEqual(configured(stream), config)

    def test_selectors_that_select_nothing(self):
        """They stand as they are written."""
        for tracks, most in ((1, 7), (2, 15), (3, 15), (4, 31), (7, 31), (8, 63), (12, 63)):
            turns = tuple((most - at) % (most + 1) for at in range(4 * tracks))
            config = ("config", ("fabric", 1, 1, tracks, 2), (((1, 1, 0, 0), 0, (most, most - 1), turns),))
            self.assertEqual(configured(stream_of(config)), config)

    def test_one_wrong_bit(self):
        for source, config, stream in some_streams(12):
            sizes = frame_sizes(config[1])
            for at in range(len(stream)):
                wrong = flipped(stream, at)
                number = [begin <= at for begin in begins(sizes)].count(True) - 1
                told = [("clean",)] * len(sizes)
                told[number] = ("bit", at)
                self.assertEqual(inspected(wrong), tuple(told))
                if at < HEADER or at % 7 == 0:
                    self.assertEqual(mended(wrong), stream)
                    self.assertEqual(configured(wrong), config)

    def test_one_wrong_bit_in_each_frame(self):
        for source, config, stream in some_streams():
            sizes = frame_sizes(config[1])
            places = [begin + source.randrange(size) for begin, size in zip(begins(sizes), sizes)]
            wrong = flipped(stream, *places)
            self.assertEqual(inspected(wrong), tuple(("bit", at) for at in places))
            self.assertEqual(mended(wrong), stream)
            self.assertEqual(configured(wrong), config)

    def test_two_wrong_bits_in_a_frame(self):
        for source, config, stream in some_streams():
            sizes = frame_sizes(config[1])
            number = source.randrange(1, len(sizes))
            begin = begins(sizes)[number]
            wrong = flipped(stream, *source.sample(range(begin, begin + sizes[number]), 2))
            told = [("clean",)] * len(sizes)
            told[number] = ("more",)
            self.assertEqual(inspected(wrong), tuple(told))
            self.refused("frame", wrong, (mended, configured))
            both = flipped(wrong, source.randrange(HEADER))
            self.assertEqual(inspected(both)[0][0], "bit")
            self.refused("frame", both, (mended, configured))
            everywhere = flipped(stream, *(begin + at for begin in begins(sizes)[1:] for at in (0, 5)))
            self.assertEqual(inspected(everywhere), (("clean",),) + (("more",),) * (len(sizes) - 1))
            self.refused("frame", everywhere, (mended, configured))

    def test_two_wrong_bits_in_the_header(self):
        """That is told ahead of a wrong length, and of wrong frames."""
        for source, config, stream in some_streams():
            wrong = flipped(stream, *source.sample(range(HEADER), 2))
            for other in (wrong, wrong[:-1], wrong + (0,), wrong[:HEADER], flipped(wrong, HEADER, HEADER + 3)):
                self.refused("header", other)

    def test_lengths(self):
        for source, config, stream in some_streams():
            for other in (stream[:-1], stream[1:HEADER], stream[:HEADER], stream[:HEADER - 1], stream[:1], (),
                          stream + (0,), stream + stream, stream[:frame_sizes(config[1])[1]]):
                if len(other) >= HEADER:
                    self.assertEqual(other[:HEADER], stream[:HEADER])
                self.refused("length", other)
            self.refused("length", flipped(stream[:-1], source.randrange(HEADER)))
        # Too short even though what is there are two wrong bits.
        self.refused("length", flipped((0,) * 17, 0, 1))

    def test_the_header_of_another_fabric(self):
        config = random_config(random.Random(2), ("fabric", 2, 2, 2, 3))
        rest = stream_of(config)[HEADER:]
        right = (1, 1, 1, 1)
        self.assertEqual(configured(header_of(*right) + rest), config)
        for other in ((0, 1, 1, 1), (1, 2, 1, 1), (1, 1, 2, 1), (1, 1, 1, 2), (1, 1, 1, 0), (1, 1, 0, 1), (7, 7, 11, 2)):
            self.refused("length", header_of(*other) + rest)
        # As many tiles in another shape are another fabric.
        self.assertEqual(configured(header_of(3, 0, 1, 1) + rest)[1], ("fabric", 4, 1, 2, 3))

    def test_headers_that_tell_too_much(self):
        config = random_config(random.Random(2), ("fabric", 1, 1, 2, 3))
        rest = stream_of(config)[HEADER:]
        for tracks in (12, 13, 14, 15):
            self.refused("header", header_of(0, 0, tracks, 0) + rest)
            self.refused("header", header_of(0, 0, tracks, 3) + rest)
        self.refused("length", header_of(0, 0, 11, 0) + rest)
        self.refused("length", header_of(0, 0, 1, 2) + rest)
        self.refused("header", header_of(0, 0, 1, 3) + rest)
        self.refused("header", header_of(0, 0, 1, 3))
        for at in range(HEADER):
            self.refused("header", flipped(header_of(0, 0, 12, 1), at) + rest)
            self.refused("header", flipped(header_of(0, 0, 1, 3), at) + rest)

    def test_a_header_that_becomes_another_one(self):
        """Three wrong bits can look like one; then the header that is put right counts."""
        config = random_config(random.Random(3), ("fabric", 1, 1, 1, 2))
        stream = stream_of(config)
        # The data bits 0, 1 and 2 have the numbers 3, 5 and 6, whose xor is 0: the parity bit is told.
        wrong = flipped(stream, 0, 1, 2)
        self.refused("length", wrong)


if __name__ == "__main__":
    unittest.main()
