"""Runs of designs by their trees."""
from beatfabric.plans import last_set, word_of
from beatfabric.treeparts import Part, claims_within, parts_within, steps_of


class DesignRun:
    """A run of a design by its tree: each used module is a module of its own."""

    def __init__(self, design, numbers=()):
        top = Part(design, len(design) - 1, numbers)
        self.parts = parts_within(top)
        self.inputs = [name for name, _ in top.ports[0]]
        self.outputs = [name for name, _ in top.ports[1]]
        self.claims = claims_within(top)
        self.steps = steps_of(self.parts)

    def beat(self, given):
        """Does one beat, and returns what is shown."""
        for part in self.parts:
            part.begin()
        top = self.parts[0]
        for name, word in zip(self.inputs, given):
            top.words[name] = word
        for part, name, body, (other, alias) in self.steps:
            word = last_set(body, part.words, part.memories, 0)
            part.words[name] = word
            other.words[alias] = word
        shown = [top.words[name] for name in self.outputs]
        shown.extend([word_of(expr, part.words, part.memories) for part, expr in self.claims])
        for part in self.parts:
            part.end()
        return tuple(shown)

    def beats(self, rows):
        """Does a beat for each of the rows, when it is asked for, and yields what is shown."""
        for given in rows:
            yield self.beat(given)
