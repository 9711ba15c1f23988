"""Gates of several kinds, made of ands; words are lists of literals, bit 0 first."""


def either(ands, one, other):
    """The literal that is 1 if one of two literals is."""
    return ands.both(one ^ 1, other ^ 1) ^ 1


def differing(ands, one, other):
    """The literal that is 1 if two literals differ."""
    return ands.both(ands.both(one, other) ^ 1, ands.both(one ^ 1, other ^ 1) ^ 1)


def chosen(ands, condition, one, other):
    """The literal that has the bit of one if the condition is 1, otherwise that of the other."""
    if one == other:
        return one
    return ands.both(ands.both(condition, one) ^ 1, ands.both(condition ^ 1, other) ^ 1) ^ 1


def chosen_word(ands, condition, left, right):
    """The word that is left if the condition is 1, otherwise right."""
    return [chosen(ands, condition, one, other) for one, other in zip(left, right)]


def inverted(word):
    """The word with all bits inverted."""
    return [literal ^ 1 for literal in word]


def joined_by(ands, action, literals):
    """One and more literals joined by a gate of two literals in a tree."""
    rows = list(literals)
    while len(rows) > 1:
        pairs = [action(ands, rows[at], rows[at + 1]) for at in range(0, len(rows) - 1, 2)]
        rows = pairs + rows[2 * len(pairs):]
    return rows[0]


def both(ands, one, other):
    """The literal that is 1 if both literals are."""
    return ands.both(one, other)


def all_of(ands, literals):
    """The literal that is 1 if all literals are."""
    return joined_by(ands, both, literals)


def any_of(ands, literals):
    """The literal that is 1 if some of the literals is."""
    return joined_by(ands, either, literals)


def odd_of(ands, literals):
    """The literal that is 1 if an odd number of the literals is."""
    return joined_by(ands, differing, literals)


def is_number(ands, word, number):
    """The literal that is 1 if a word is a number; 0 if the word has no room for it."""
    if number >> len(word):
        return 0
    return all_of(ands, [literal ^ 1 ^ ((number >> at) & 1) for at, literal in enumerate(word)])


def are_same(ands, left, right):
    """The literal that is 1 if two words are the same."""
    return all_of(ands, [differing(ands, one, other) ^ 1 for one, other in zip(left, right)])


def chosen_among(ands, rows, width):
    """The word of the row whose condition is 1, for pairs (condition, word); 0 if there is none.

    At most one condition is 1.
    """
    return [any_of(ands, [ands.both(condition, word[at]) for condition, word in rows]) for at in range(width)]
