"""How a flat design goes through its beats."""
from beatfabric.bodies import links_of, sliced, statements_by_target
from beatfabric.sized import name_widths, sized, sized_body, sized_guard
from beatfabric.words import result


def loaded(memory, address):
    """The word of a memory at an address, 0 if there is no such address."""
    return memory[address] if address < len(memory) else 0


def word_of(expr, words, memories):
    """The word of a sized expr, given the words of the names and the words of the memories."""
    if expr[0] == "word":
        return expr[2]
    if expr[0] == "name":
        return words[expr[2]]
    if expr[0] == "read":
        return loaded(memories[expr[2]], word_of(expr[3], words, memories))
    op, width, low, operands = expr
    inner = []
    for operand in operands:
        inner.append(word_of(operand, words, memories))
    return result(op, width, [operand[1] for operand in operands], inner, low)


def part_gone_on(statement, words, memories):
    """The part of an `if` or `case` that is gone through."""
    word, head, inner, last = statement
    value = word_of(head, words, memories)
    if word == "if":
        return inner if value == 1 else last
    for numbers, part in inner:
        if value in numbers:
            return part
    return last


def last_set(body, words, memories, kept):
    """The word of the last `set` that is gone through, kept if there is none; the body sets one name."""
    word = kept
    for statement in body:
        if statement[0] == "set":
            word = word_of(statement[2], words, memories)
        else:
            word = last_set(part_gone_on(statement, words, memories), words, memories, word)
    return word


def writes_of(body, words, memories):
    """Pairs (address, word) of the writes that are gone through; the body writes one memory."""
    writes = []
    for statement in body:
        if statement[0] == "write":
            address = word_of(statement[2], words, memories)
            writes.append((address, word_of(statement[3], words, memories)))
        else:
            writes.extend(writes_of(part_gone_on(statement, words, memories), words, memories))
    return writes


def written(memory, writes):
    """A memory behind some writes; those without an address in it do nothing."""
    row = list(memory)
    for address, word in writes:
        if address < len(row):
            row[address] = word
    return tuple(row)


def holds(guard, words, memories, otherwise):
    """Whether a `when` or `reset` is 1; without one, what is told otherwise."""
    if guard is None:
        return otherwise
    return word_of(guard, words, memories) == 1


class Plan:
    """A flat design, made ready for beats.

    A state is (registers, memories): the words of the registers, and a tuple of words for each memory.
    """

    def __init__(self, flat):
        _, inputs, outputs, wires, regs, mems, flat_body, claims = flat
        widths = name_widths(flat)
        body = sized_body(widths, flat_body)
        found = statements_by_target(body)
        self.inputs = [name for name, _ in inputs]
        self.outputs = [name for name, _ in outputs]
        self.claims = [sized(widths, expr) for _, expr in claims]
        self.mems = [(name, size, sliced(found.get(name, []), name)) for name, _, size in mems]
        # What each wire hangs on, and what is left of the body for it, by its name.
        self.links = links_of(body)
        self.bodies = {name: sliced(found.get(name, []), name) for name, _ in wires}
        self.regs = []
        for name, _, start, when, reset in regs:
            guards = (sized_guard(widths, when), sized_guard(widths, reset))
            self.regs.append((name, start, guards, sliced(found.get(name, []), name)))

    def first_state(self):
        """The state that a run begins with."""
        registers = tuple([start for _, start, _, _ in self.regs])
        return (registers, tuple([(0,) * size for _, size, _ in self.mems]))

    def contents(self, state):
        """The words of the registers and of the memories in a state, by names."""
        registers, rows = state
        words = {name: word for (name, _, _, _), word in zip(self.regs, registers)}
        return (words, {name: row for (name, _, _), row in zip(self.mems, rows)})

    def next_content(self, row, words, memories):
        """The content of a register behind a beat."""
        name, start, (when, reset), body = row
        if holds(reset, words, memories, False):
            return start
        if not holds(when, words, memories, True):
            return words[name]
        return last_set(body, words, memories, words[name])

    def next_state(self, words, memories):
        """The state behind a beat in which all names have these words."""
        registers = tuple([self.next_content(row, words, memories) for row in self.regs])
        rows = []
        for name, _, body in self.mems:
            rows.append(written(memories[name], writes_of(body, words, memories)))
        return (registers, tuple(rows))
