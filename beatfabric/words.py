"""The operations on words, and words as bits."""

MOST_WIDTH = 8


def added(left, right):
    """The sum of two words."""
    return left + right


def subtracted(left, right):
    """The difference of two words."""
    return left - right


def multiplied(left, right):
    """The product of two words."""
    return left * right


def bitwise_and(left, right):
    """The bits that both words have."""
    return left & right


def bitwise_or(left, right):
    """The bits that one of the words has."""
    return left | right


def bitwise_xor(left, right):
    """The bits in which the words differ."""
    return left ^ right


def shifted_up(left, right):
    """The left word with as many zeros below it as the right one tells."""
    return left << right


def shifted_down(left, right):
    """The left word without as many low bits as the right one tells."""
    return left >> right


def is_less(left, right):
    """Whether the left word is less."""
    return left < right


def is_at_most(left, right):
    """Whether the left word is less or the same."""
    return left <= right


def is_same(left, right):
    """Whether the words are the same."""
    return left == right


def is_other(left, right):
    """Whether the words differ."""
    return left != right


TWO_WORDS = {
    "add": added,
    "sub": subtracted,
    "mul": multiplied,
    "and": bitwise_and,
    "or": bitwise_or,
    "xor": bitwise_xor,
    "shl": shifted_up,
    "shr": shifted_down,
    "lt": is_less,
    "le": is_at_most,
    "eq": is_same,
    "ne": is_other,
}


def one_word_result(op, inner, word, low):
    """The result of an operation on one word of the width inner, not yet cut to its own width."""
    full = (1 << inner) - 1
    if op == "not":
        return full - word
    if op == "neg":
        return -word
    if op == "bits":
        return word >> low
    if op == "sign" and word >> (inner - 1):
        return word - (1 << inner)
    if op == "any":
        return int(word > 0)
    if op == "all":
        return int(word == full)
    if op == "odd":
        return sum(to_bits(inner, word))
    return word


def result(op, width, widths, words, low=0):
    """The word of an operation with that width, of operands with these widths and words."""
    if op in TWO_WORDS:
        action = TWO_WORDS[op]
        word = int(action(words[0], words[1]))
    elif op == "pick":
        word = words[1] if words[0] == 1 else words[2]
    elif op == "join":
        word = (words[0] << widths[1]) + words[1]
    else:
        word = one_word_result(op, widths[0], words[0], low)
    return word & ((1 << width) - 1)


def to_bits(width, word):
    """The bits of a word, bit 0 first."""
    return tuple([(word >> at) & 1 for at in range(width)])


def from_bits(bits):
    """The word of bits, bit 0 first."""
    word = 0
    for at, bit in enumerate(bits):
        word = word + (bit << at)
    return word


def split_ports(ports, words):
    """The bits of the words, one after the other, for ports (name, width)."""
    bits = []
    for (_, width), word in zip(ports, words):
        bits.extend(to_bits(width, word))
    return tuple(bits)


def join_ports(ports, bits):
    """The words that have these bits, one after the other, for ports (name, width)."""
    words = []
    at = 0
    for _, width in ports:
        words.append(from_bits(bits[at:at + width]))
        at = at + width
    return tuple(words)


def room_width(many):
    """The least width from 1 on that has at least so many words."""
    width = 1
    while (1 << width) < many:
        width += 1
    return width
