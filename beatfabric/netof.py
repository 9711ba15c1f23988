"""Makes the net of bits of a graph of words."""
from beatfabric.adding import summed
from beatfabric.errors import TooLarge
from beatfabric.gates import (
    all_of, any_of, are_same, chosen_word, differing, either, inverted, is_number, odd_of,
)
from beatfabric.graphs import operands_of
from beatfabric.shapes import loaded_word, multiplied_words, shifted_word
from beatfabric.tidy import Ands, without_unreached
from beatfabric.words import to_bits

MOST_NODES = 400


def fold_bit(ands, op, word):
    """The literal of `any`, `all` or `odd` of a word."""
    if op == "any":
        return any_of(ands, word)
    if op == "all":
        return all_of(ands, word)
    return odd_of(ands, word)


def bitwise_word(ands, op, left, right):
    """The word of `and`, `or` or `xor` of two words."""
    if op == "and":
        return [ands.both(one, other) for one, other in zip(left, right)]
    if op == "or":
        return [either(ands, one, other) for one, other in zip(left, right)]
    return [differing(ands, one, other) for one, other in zip(left, right)]


def order_bit(ands, adder, op, left, right):
    """The literal of `lt` or `le` of two words."""
    if op == "lt":
        return summed(ands, adder, left, inverted(right), 1)[1] ^ 1
    return summed(ands, adder, right, inverted(left), 1)[1]


def widened(word, width, above):
    """A word that is cut to a width, or filled up to it with a literal above."""
    return (word + [above] * width)[:width]


def reshaped_word(op, width, words, low):
    """The word of an operation that needs no ands."""
    word = words[0]
    if op == "not":
        return inverted(word)
    if op == "bits":
        return word[low:low + width]
    if op == "join":
        return words[1] + word
    return widened(word, width, 0 if op == "wide" else word[-1])


def number_word(ands, shapes, op, words):
    """The word of an operation on numbers."""
    left = words[0]
    right = words[-1]
    if op == "add":
        return summed(ands, shapes[0], left, right, 0)[0]
    if op == "sub":
        return summed(ands, shapes[0], left, inverted(right), 1)[0]
    if op == "neg":
        return summed(ands, shapes[0], [0] * len(left), inverted(left), 1)[0]
    if op == "mul":
        return multiplied_words(ands, shapes, left, right)
    if op == "shl":
        return shifted_word(ands, shapes, left, right)
    return shifted_word(ands, shapes, left[::-1], right)[::-1]


def operation_bits(ands, shapes, node, words):
    """The word of the node of an operation on words."""
    op = node[0]
    if op in ("any", "all", "odd"):
        return [fold_bit(ands, op, words[0])]
    if op in ("and", "or", "xor"):
        return bitwise_word(ands, op, words[0], words[1])
    if op in ("lt", "le"):
        return [order_bit(ands, shapes[0], op, words[0], words[1])]
    if op in ("eq", "ne"):
        return [are_same(ands, words[0], words[1]) ^ int(op == "ne")]
    if op == "pick":
        return chosen_word(ands, words[0][0], words[1], words[2])
    if op in ("not", "bits", "join", "wide", "sign"):
        return reshaped_word(op, node[1], words, node[-1])
    return number_word(ands, shapes, op, words)


def bit_names(name, width):
    """The names of the bits of a word."""
    return [f"{name}:{at}" for at in range(width)]


def kept_words(graph):
    """Triples (name, width, start) of all that keeps a word: the registers, then the words of the memories."""
    _, _, _, regs, mems, _, _ = graph
    words = [(name, width, start) for name, width, start, _ in regs]
    for name, width, size, _ in mems:
        words.extend([(f"{name}#{address}", width, 0) for address in range(size)])
    return words


class NetMaker:
    """The words of literals for what a graph has, in a net in the making."""

    def __init__(self, graph, shapes):
        self.graph = graph
        self.shapes = shapes
        self.many = 1
        self.inputs = [self.fresh_word(width) for _, width in graph[1]]
        self.kept = [self.fresh_word(width) for _, width, _ in kept_words(graph)]
        self.ands = Ands(self.many)
        self.words = []

    def fresh_word(self, width):
        """The literals of the next nodes ahead of all ands."""
        word = [2 * (self.many + at) for at in range(width)]
        self.many += width
        return word

    def memory(self, number):
        """The words that the memory with that number contains."""
        _, _, _, regs, mems, _, _ = self.graph
        ahead = len(regs) + sum([mem[2] for mem in mems[:number]])
        return self.kept[ahead:ahead + mems[number][2]]

    def node_word(self, node):
        """The word of a node, when those ahead of it have theirs."""
        if node[0] == "input":
            return self.inputs[node[2]]
        if node[0] == "reg":
            return self.kept[node[2]]
        if node[0] == "const":
            return list(to_bits(node[1], node[2]))
        if node[0] == "load":
            return loaded_word(self.ands, self.shapes, self.memory(node[2]), self.words[node[3]])
        words = [self.words[operand] for operand in operands_of(node)]
        return operation_bits(self.ands, self.shapes, node, words)

    def written_word(self, writes, address, word):
        """What a word of a memory at an address becomes."""
        for condition, target, content in writes:
            here = self.ands.both(self.words[condition][0], is_number(self.ands, self.words[target], address))
            word = chosen_word(self.ands, here, self.words[content], word)
        return word

    def next_words(self):
        """What all that keeps a word contains behind a beat."""
        _, _, _, regs, mems, _, _ = self.graph
        rows = [self.words[follow] for _, _, _, follow in regs]
        for number, (_, _, _, writes) in enumerate(mems):
            for address, word in enumerate(self.memory(number)):
                rows.append(self.written_word(writes, address, word))
        return rows

    def named_bits(self, rows):
        """Pairs (name, literal) of the bits of named nodes."""
        pairs = []
        for name, node in rows:
            word = self.words[node]
            pairs.extend(list(zip(bit_names(name, len(word)), word)))
        return tuple(pairs)

    def made_net(self):
        """The net, when all nodes have their words."""
        _, inputs, _, _, _, outputs, claims = self.graph
        names = []
        for name, width in inputs:
            names.extend(bit_names(name, width))
        regs = []
        for (name, width, start), follow in zip(kept_words(self.graph), self.next_words()):
            regs.extend(list(zip(bit_names(name, width), to_bits(width, start), follow)))
        shown = self.named_bits(outputs)
        claimed = self.named_bits(claims)
        return without_unreached(("net", tuple(names), tuple(regs), tuple(self.ands.pairs), shown, claimed))


def net_of(graph, shapes=("ripple", "rows", "steps", "halves")):
    """The net of a graph, with the shapes of the adder, the multiplier, the shifter and the chooser."""
    if len(graph[2]) > MOST_NODES:
        raise TooLarge("graph")
    maker = NetMaker(graph, shapes)
    for node in graph[2]:
        maker.words.append(maker.node_word(node))
    return maker.made_net()
