"""Frames: data bits with a check word, lowest bit first, and a parity bit."""
from beatfabric.words import from_bits, to_bits


def data_numbers(many):
    """The numbers of so many data bits: from 3 on those that are no powers of 2."""
    numbers = []
    number = 3
    while len(numbers) < many:
        if number & (number - 1) != 0:
            numbers.append(number)
        number += 1
    return numbers


def check_width(many):
    """The number of bits of the check word for so many data bits."""
    return data_numbers(many)[-1].bit_length()


def frame_size(many):
    """The number of bits of a frame of so many data bits."""
    return many + check_width(many) + 1


def check_word(data):
    """The xor of the numbers of the data bits that are 1."""
    word = 0
    for number, bit in zip(data_numbers(len(data)), data):
        if bit == 1:
            word = word ^ number
    return word


def frame_of(data):
    """The frame of data bits."""
    bits = tuple(data) + to_bits(check_width(len(data)), check_word(data))
    return bits + (sum(bits) & 1,)


def wrong_place(many, fault):
    """The place of the one wrong bit that has this xor as its trace, None if there is no such bit."""
    if fault == 0:
        return frame_size(many) - 1
    if fault & (fault - 1) == 0:
        return many + fault.bit_length() - 1
    numbers = data_numbers(many)
    return numbers.index(fault) if fault in numbers else None


def read_frame(many, frame):
    """What is wrong with a frame of so many data bits."""
    fault = check_word(frame[:many]) ^ from_bits(frame[many:-1])
    is_odd = sum(frame) & 1 == 1
    if not is_odd:
        return ("clean",) if fault == 0 else ("more",)
    place = wrong_place(many, fault)
    return ("more",) if place is None else ("bit", place)
