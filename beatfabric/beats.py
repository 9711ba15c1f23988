"""Runs of flat designs."""
from beatfabric.ordering import in_order
from beatfabric.plans import Plan, last_set, word_of
from beatfabric.trials import Trial


class FlatRun:
    """A run of a flat design that the checker lets."""

    def __init__(self, flat):
        self.plan = Plan(flat)
        self.order = in_order(list(self.plan.bodies), self.plan.links)
        self.now = self.plan.first_state()

    def beat(self, given):
        """Does one beat, and returns what is shown."""
        words, memories = self.plan.contents(self.now)
        for name, word in zip(self.plan.inputs, given):
            words[name] = word
        for name in self.order:
            words[name] = last_set(self.plan.bodies[name], words, memories, 0)
        shown = [words[name] for name in self.plan.outputs]
        shown.extend([word_of(expr, words, memories) for expr in self.plan.claims])
        self.now = self.plan.next_state(words, memories)
        return tuple(shown)

    def beats(self, rows):
        """Does a beat for each of the rows, when it is asked for, and yields what is shown."""
        for given in rows:
            yield self.beat(given)

    @property
    def state(self):
        """The words of the registers, and a tuple of words for each memory."""
        return self.now

    @state.setter
    def state(self, value):
        self.now = value

    def resume(self, state):
        """Goes on from a state."""
        self.now = state

    def trial(self):
        """A block for `with` behind which the state is what it was."""
        return Trial(self)

    def tried(self, rows):
        """What the beats of the rows show; the state stays."""
        with self.trial():
            shown = tuple(self.beats(rows))
        return shown
