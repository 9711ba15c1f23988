"""Adders of several shapes, made of ands; words are lists of literals, bit 0 first."""
from beatfabric.gates import chosen, chosen_word, differing, either


def ripple_sum(ands, left, right, carry):
    """The sum of two words and a carry, and the carry out of it; from bit to bit."""
    word = []
    for one, other in zip(left, right):
        both = ands.both(one, other)
        differ = ands.both(both ^ 1, ands.both(one ^ 1, other ^ 1) ^ 1)
        through = ands.both(differ, carry)
        word.append(ands.both(through ^ 1, ands.both(differ ^ 1, carry ^ 1) ^ 1))
        carry = ands.both(both ^ 1, through ^ 1) ^ 1
    return word, carry


def halved_sums(ands, left, right):
    """The sums of two words with the carries 0 and 1, as pairs of a word and a carry out."""
    if len(left) == 1:
        differ = differing(ands, left[0], right[0])
        none = ([differ], ands.both(left[0], right[0]))
        return none, ([differ ^ 1], either(ands, left[0], right[0]))
    half = len(left) // 2
    lows = halved_sums(ands, left[:half], right[:half])
    (high_none, out_none), (high_one, out_one) = halved_sums(ands, left[half:], right[half:])
    sums = []
    for low, carry in lows:
        word = low + chosen_word(ands, carry, high_one, high_none)
        sums.append((word, chosen(ands, carry, out_one, out_none)))
    return sums[0], sums[1]


def select_sum(ands, left, right, carry):
    """The sum of two words and a carry, and the carry out of it; upper halves are made for both carries."""
    (word_none, out_none), (word_one, out_one) = halved_sums(ands, left, right)
    return chosen_word(ands, carry, word_one, word_none), chosen(ands, carry, out_one, out_none)


def spanned(ands, high, low):
    """Where two spans of bits join: whether a carry comes out, and whether one goes through."""
    makes, passes = high
    return (either(ands, makes, ands.both(passes, low[0])), ands.both(passes, low[1]))


def prefix_sum(ands, left, right, carry):
    """The sum of two words and a carry, and the carry out of it; spans of bits are doubled."""
    spans = [(carry, 0)]
    for one, other in zip(left, right):
        spans.append((ands.both(one, other), either(ands, one, other)))
    step = 1
    while step < len(spans):
        joined = [spanned(ands, spans[at], spans[at - step]) for at in range(step, len(spans))]
        spans = spans[:step] + joined
        step = 2 * step
    word = []
    for at, (one, other) in enumerate(zip(left, right)):
        word.append(differing(ands, differing(ands, one, other), spans[at][0]))
    return word, spans[-1][0]


ADDERS = {"ripple": ripple_sum, "select": select_sum, "prefix": prefix_sum}


def summed(ands, adder, left, right, carry):
    """The sum of two words and a carry, and the carry out of it, by the adder of that name."""
    action = ADDERS[adder]
    return action(ands, left, right, carry)
