"""Frames."""
import itertools
import random
import unittest

from beatfabric.frames import frame_of, read_frame
from tests.netmaking import is_plain
from tests.slowdevice import slow_frame

SIZES = (1, 2, 4, 5, 11, 12, 26, 27, 57, 58, 120, 121, 247, 248, 500)
# By the number of data bits, the width of the check word.
WIDTHS = ((1, 2), (2, 3), (4, 3), (5, 4), (11, 4), (12, 5), (26, 5), (27, 6), (57, 6), (58, 7), (120, 7), (121, 8),
          (247, 8), (248, 9), (500, 9))


def random_data(source, many):
    return tuple(source.randrange(2) for _ in range(many))


def flipped(bits, *places):
    return tuple(bit ^ (at in places) for at, bit in enumerate(bits))


class FramesTest(unittest.TestCase):
    def test_by_hand(self):
        self.assertEqual(frame_of((1, 0, 1)), (1, 0, 1, 1, 0, 1, 0))
        self.assertEqual(frame_of((0,)), (0, 0, 0, 0))
        self.assertEqual(frame_of((1,)), (1, 1, 1, 1))
        self.assertEqual(frame_of((0, 1)), (0, 1, 1, 0, 1, 1))
        self.assertEqual(frame_of((0, 0, 0, 1)), (0, 0, 0, 1, 1, 1, 1, 0))
        self.assertEqual(frame_of((0, 0, 0, 0, 1)), (0, 0, 0, 0, 1, 1, 0, 0, 1, 1))

    def test_sizes(self):
        for many, width in WIDTHS:
            for bit in (0, 1):
                self.assertEqual(len(frame_of((bit,) * many)), many + width + 1)

    def test_random(self):
        for many in range(1, 130):
            data = random_data(random.Random(many), many)
            self.assertEqual(frame_of(data), slow_frame(data))
        for many in SIZES:
            for seed in range(5):
                data = random_data(random.Random(seed), many)
                frame = frame_of(data)
                self.assertEqual(frame, slow_frame(data))
                self.assertEqual(frame_of(data), frame)
                self.assertIs(is_plain(frame), True)
                self.assertEqual(frame[:many], data)
                self.assertEqual(sum(frame) % 2, 0)
                self.assertEqual(read_frame(many, frame), ("clean",))

    def test_each_single_wrong_bit(self):
        for many in SIZES:
            frame = frame_of(random_data(random.Random(many), many))
            for at in range(len(frame)):
                self.assertEqual(read_frame(many, flipped(frame, at)), ("bit", at), many)

    def test_each_pair_of_wrong_bits(self):
        for many in (1, 2, 4, 5, 11, 12, 26, 27, 57, 58):
            frame = frame_of(random_data(random.Random(many), many))
            for one, other in itertools.combinations(range(len(frame)), 2):
                self.assertEqual(read_frame(many, flipped(frame, one, other)), ("more",), (many, one, other))
        for many in SIZES[-5:]:
            source = random.Random(many)
            frame = frame_of(random_data(source, many))
            for _ in range(60):
                self.assertEqual(read_frame(many, flipped(frame, *source.sample(range(len(frame)), 2))), ("more",))

    def test_three_wrong_bits(self):
        """They look like one wrong bit, whose number is the xor of theirs, or like more if there is none."""
        told = set()
        for many in (1, 2, 4, 5, 11, 12, 26):
            frame = frame_of(random_data(random.Random(many), many))
            numbers = [number for number in range(3, 600) if bin(number).count("1") > 1][:many]
            width = len(frame) - many - 1
            numbers += [2 ** j for j in range(width)] + [0]
            for places in itertools.combinations(range(len(frame)), 3):
                fault = 0
                for at in places:
                    fault ^= numbers[at]
                answer = read_frame(many, flipped(frame, *places))
                self.assertEqual(answer, ("bit", numbers.index(fault)) if fault in numbers else ("more",))
                told.add((many, answer[0]))
        # With 4, 11 and 26 data bits all numbers below 2 ** c are used.
        self.assertEqual(sorted(told), sorted(
            [(many, "bit") for many in (1, 2, 4, 5, 11, 12, 26)] + [(many, "more") for many in (2, 5, 12)]
        ))

    def test_any_bits(self):
        """Each frame of few bits at all."""
        for many in (1, 2, 3, 4):
            for frame in itertools.product((0, 1), repeat=len(frame_of((0,) * many))):
                told = read_frame(many, frame)
                right = [(), *((at,) for at in range(len(frame)))]
                clean = [places for places in right if slow_frame(flipped(frame, *places)[:many]) ==
                         flipped(frame, *places)]
                self.assertLessEqual(len(clean), 1)
                if not clean:
                    self.assertEqual(told, ("more",))
                elif clean[0] == ():
                    self.assertEqual(told, ("clean",))
                else:
                    self.assertEqual(told, ("bit", clean[0][0]))


if __name__ == "__main__":
    unittest.main()
