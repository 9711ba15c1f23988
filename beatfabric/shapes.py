"""Multipliers, shifters and choosers of several shapes, made of ands; words are lists of literals, bit 0 first."""
from beatfabric.adding import summed
from beatfabric.gates import chosen_among, chosen_word, is_number


def product_rows(ands, left, right):
    """The left word times each bit of the right one, each moved up to its place."""
    width = len(left)
    rows = []
    for at, bit in enumerate(right):
        rows.append([0] * at + [ands.both(literal, bit) for literal in left[:width - at]])
    return rows


def rows_product(ands, adder, left, right):
    """The product of two words, row added to row."""
    rows = product_rows(ands, left, right)
    word = rows[0]
    for at in range(1, len(rows)):
        # Below its own place a row has only zeros.
        added, _ = summed(ands, adder, word[at:], rows[at][at:], 0)
        word = word[:at] + added
    return word


def tree_product(ands, adder, left, right):
    """The product of two words, rows added in pairs."""
    rows = product_rows(ands, left, right)
    while len(rows) > 1:
        pairs = [summed(ands, adder, rows[at], rows[at + 1], 0)[0] for at in range(0, len(rows) - 1, 2)]
        rows = pairs + rows[2 * len(pairs):]
    return rows[0]


def moved_up(word, amount):
    """A word with so many zeros below it, as wide as before."""
    return ([0] * amount + word)[:len(word)]


def steps_shift(ands, word, amount):
    """A word shifted up, by each bit of the amount in turn."""
    for at, bit in enumerate(amount):
        word = chosen_word(ands, bit, moved_up(word, 1 << at), word)
    return word


def all_shift(ands, word, amount):
    """A word shifted up, chosen among all shifted ones."""
    rows = [(is_number(ands, amount, at), moved_up(word, at)) for at in range(len(word))]
    return chosen_among(ands, rows, len(word))


def halves_choice(ands, words, address, width):
    """The word at an address, 0 if there is none; each bit of the address leaves half of the words."""
    rows = list(words)
    none = [0] * width
    for bit in address:
        padded = rows + [none]
        rows = [chosen_word(ands, bit, padded[at + 1], rows[at]) for at in range(0, len(rows), 2)]
    return rows[0]


def each_choice(ands, words, address, width):
    """The word at an address, 0 if there is none; chosen among all words."""
    rows = [(is_number(ands, address, at), word) for at, word in enumerate(words)]
    return chosen_among(ands, rows, width)


MULTIPLIERS = {"rows": rows_product, "tree": tree_product}
SHIFTERS = {"steps": steps_shift, "all": all_shift}
CHOOSERS = {"halves": halves_choice, "each": each_choice}


def multiplied_words(ands, shapes, left, right):
    """The product of two words of one width, cut to it."""
    action = MULTIPLIERS[shapes[1]]
    return action(ands, shapes[0], left, right)


def shifted_word(ands, shapes, word, amount):
    """A word shifted up by an amount of any width."""
    action = SHIFTERS[shapes[2]]
    return action(ands, word, amount)


def loaded_word(ands, shapes, words, address):
    """The word at an address of any width, 0 if there is none."""
    action = CHOOSERS[shapes[3]]
    return action(ands, words, address, len(words[0]))
