"""The modules of a design as they stand in its tree, each of them one of its own."""
from beatfabric.declaring import Declaring, walk_declaring
from beatfabric.ordering import in_order
from beatfabric.plans import Plan
from beatfabric.stating import Stating, walk_stating


class PartDeclaring(Declaring):
    """The declaring walk of one module alone; each used module becomes a part of its own."""

    def __init__(self, design):
        Declaring.__init__(self, design)
        self.inner = {}

    def enter_use(self, scope, given):
        """Makes the part of a use, whose names are known here behind the name of the use."""
        part = Part(self.known.design, scope.at, given)
        self.inner[scope.name] = part
        kinds = part.known.kinds
        for name in list(kinds):
            self.known.kinds[scope.prefix + name] = kinds[name]
        scope.ports.extend([scope.prefix + port for port in part.known.scopes[""].ports])


class PartStating(Stating):
    """The stating walk of one module alone."""

    def __init__(self, known):
        Stating.__init__(self, known)
        # The uses in order, each with how many claims stand ahead of it.
        self.entered = []

    def state_inner(self, scope):
        """Notes where a use stands; its module states its items itself."""
        self.entered.append((scope.name, len(self.claims)))


class Part:
    """A module of its own: its plan, the parts that it uses, and what it contains.

    In its plan the outputs of the parts that it uses are inputs, and their inputs are wires.
    """

    def __init__(self, design, at, numbers):
        walk = PartDeclaring(design)
        self.known = walk_declaring(walk, at, numbers)
        self.inner = walk.inner
        # The part that uses this one, and the name that it has there; None for the top.
        self.above = None
        self.ports = (tuple(self.known.inputs), tuple(self.known.outputs))
        for use, part in self.inner.items():
            part.above = (self, use)
            given, shown = part.ports
            self.known.wires.extend([(f"{use}.{name}", width) for name, width in given])
            self.known.inputs.extend([(f"{use}.{name}", width) for name, width in shown])
        stating = PartStating(self.known)
        self.plan = Plan(walk_stating(stating))
        self.entered = stating.entered
        self.held = self.plan.first_state()
        self.words = {}
        self.memories = {}

    def owner_of(self, name):
        """The part that declares what has a name here, and its name there."""
        use, _, rest = name.partition(".")
        if use in self.inner:
            return (self.inner[use], rest)
        return (self, name)

    def twin_of(self, name):
        """The other part in which a wire can be read, and its name there; the top itself without one."""
        owner, own_name = self.owner_of(name)
        if own_name != name or self.above is None:
            return (owner, own_name)
        above, use = self.above
        return (above, f"{use}.{name}")

    def begin(self):
        """Begins a beat: the registers and memories have their contents."""
        words, memories = self.plan.contents(self.held)
        self.words = words
        self.memories = memories

    def end(self):
        """Ends a beat: the registers and memories take their next contents."""
        self.held = self.plan.next_state(self.words, self.memories)


def parts_within(part):
    """A part and all parts in it."""
    parts = [part]
    for inner in list(part.inner.values()):
        parts.extend(parts_within(inner))
    return parts


def claims_within(part):
    """Pairs (part, expr) of the claims of a part and of those in it, in order."""
    own = [(part, expr) for expr in part.plan.claims]
    claims = []
    done = 0
    for name, ahead in part.entered:
        claims.extend(own[done:ahead] + claims_within(part.inner[name]))
        done = ahead
    return claims + own[done:]


def steps_of(parts):
    """What a beat does, in order: tuples (part, wire, body, twin) for all wires that the parts set."""
    links = {}
    steps = {}
    for part in parts:
        for name, body in part.plan.bodies.items():
            key = part.owner_of(name)
            steps[key] = (part, name, body, part.twin_of(name))
            links[key] = [part.owner_of(other) for other in part.plan.links.get(name, {})]
    return [steps[key] for key in in_order(list(steps), links)]
