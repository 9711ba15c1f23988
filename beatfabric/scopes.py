"""What the walks of flattening know: the modules in use and all that is declared."""
from beatfabric.errors import BadUse, TooLarge, Twice, Unknown
from beatfabric.naming import copies_of, local_name

MOST_COUNTED = 400


class Scope:
    """A module where it is used: its place in the design, its flat name, and its ports."""

    def __init__(self, at, name):
        self.at = at
        self.name = name
        self.prefix = name + "." if name else ""
        self.numbers = ()
        # Flat names of what a using module has to bind, in the order of declaring.
        self.ports = []

    def full_name(self, place, numbers):
        """The flat name of a place of this module."""
        return self.prefix + local_name(place, numbers)


class Declared:
    """All that is declared, and how much has been counted."""

    def __init__(self, design):
        self.design = design
        self.counted = 0
        # The kind of each flat name: the word of its item, or the side of a link.
        self.kinds = {}
        self.machines = {}
        self.scopes = {}
        self.inputs = []
        self.outputs = []
        self.wires = []
        self.regs = []
        self.mems = []

    def tally(self):
        """Counts one thing."""
        self.counted += 1
        if self.counted > MOST_COUNTED:
            raise TooLarge("flat")

    def declare(self, name, kind):
        """Declares a flat name."""
        if name in self.kinds:
            raise Twice(name)
        self.kinds[name] = kind

    def require(self, name, kinds):
        """Looks for a flat name that must be declared as one of some kinds."""
        if name not in self.kinds:
            raise Unknown(name)
        if self.kinds[name] not in kinds:
            raise BadUse(name)


class Walk:
    """A walk through the items of modules; what is still to be looked at stands in todo, the next thing last."""

    def __init__(self, known):
        self.known = known
        self.todo = []

    def put_ahead(self, scope, numbers, parts):
        """Puts parts ahead of all that is still to be looked at."""
        for part in reversed(parts):
            self.todo.append((scope, numbers, part))

    def look_at(self, scope, numbers, part):
        """Looks at an item that is no `for`; each kind of walk has its own way."""
        pass

    def walk(self):
        """Looks at all that is to be looked at."""
        while self.todo:
            scope, numbers, part = self.todo.pop()
            if part[0] == "for":
                for inner in reversed(copies_of(part, numbers)):
                    self.todo.append((scope, inner, ("copy", part[4])))
            elif part[0] == "copy":
                self.known.tally()
                self.put_ahead(scope, numbers, part[1])
            else:
                self.look_at(scope, numbers, part)


def first_double(names):
    """The first name that one ahead of it is, None if there is none."""
    seen = {}
    for name in names:
        if name in seen:
            return name
        seen[name] = True
    return None
