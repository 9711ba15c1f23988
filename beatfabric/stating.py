"""The stating walk of flattening."""
from beatfabric.consts import const_value
from beatfabric.errors import BadUse, Twice
from beatfabric.flatexprs import flat_expr, flat_guard, required, state_word
from beatfabric.naming import copies_of
from beatfabric.scopes import Walk

GIVING = ("own", "out")
TAKING = ("own", "in")
ALWAYS = ("word", 1, 1)


def flat_set(known, scope, numbers, part):
    """The flat statement of a `set`."""
    name = required(known, scope, numbers, part[1], ("wire", "output", "reg"))
    return ("set", name, flat_expr(known, scope, numbers, part[2]))


def flat_if(known, scope, numbers, part):
    """The flat statement of an `if`."""
    condition = flat_expr(known, scope, numbers, part[1])
    first = flat_body(known, scope, numbers, part[2])
    return ("if", condition, first, flat_body(known, scope, numbers, part[3]))


def flat_case(known, scope, numbers, part):
    """The flat statement of a `case`."""
    expr = flat_expr(known, scope, numbers, part[1])
    arms = []
    for consts, inner in part[2]:
        values = tuple([const_value(const, numbers) for const in consts])
        arms.append((values, flat_body(known, scope, numbers, inner)))
    return ("case", expr, tuple(arms), flat_body(known, scope, numbers, part[3]))


def flat_write(known, scope, numbers, part):
    """The flat statement of a `write`."""
    name = required(known, scope, numbers, part[1], ("mem",))
    address = flat_expr(known, scope, numbers, part[2])
    return ("write", name, address, flat_expr(known, scope, numbers, part[3]))


def flat_go(known, scope, numbers, part):
    """The flat statement of a `go`."""
    name = required(known, scope, numbers, part[1], ("states",))
    return ("set", name, state_word(known, name, part[2]))


STATEMENTS = {
    "set": flat_set,
    "if": flat_if,
    "case": flat_case,
    "write": flat_write,
    "go": flat_go,
}


def flat_statement(known, scope, numbers, part):
    """The flat statement of a statement that is no `for`."""
    known.tally()
    action = STATEMENTS[part[0]]
    return action(known, scope, numbers, part)


def flat_body(known, scope, numbers, parts):
    """The flat statements of the statements inside of `if` and `case`."""
    body = []
    for part in parts:
        if part[0] == "for":
            for inner in copies_of(part, numbers):
                known.tally()
                body.extend(flat_body(known, scope, inner, part[4]))
        else:
            body.append(flat_statement(known, scope, numbers, part))
    return tuple(body)


class Stating(Walk):
    """The stating walk through all that is declared."""

    def __init__(self, known):
        Walk.__init__(self, known)
        self.body = []
        # The `when` and `reset` of each register.
        self.guards = {}
        self.claims = []
        self.claimed = {}

    def state_module(self, scope):
        """States the items of a module next."""
        _, _, _, parts = self.known.design[scope.at]
        self.put_ahead(scope, scope.numbers, parts)

    def look_at(self, scope, numbers, part):
        """States an item, if it is one that states."""
        if part[0] == "use":
            self.state_use(scope, numbers, part)
        elif part[0] == "reg":
            self.state_reg(scope, numbers, part)
        elif part[0] in ("claim", "give", "take"):
            self.known.tally()
            self.state_item(scope, numbers, part)
        elif part[0] in STATEMENTS:
            self.body.append(flat_statement(self.known, scope, numbers, part))

    def state_item(self, scope, numbers, part):
        """States a `claim`, `give` or `take`."""
        if part[0] == "claim":
            self.state_claim(scope, numbers, part)
        elif part[0] == "give":
            name = required(self.known, scope, numbers, part[1], GIVING)
            self.drive(f"{name}.data", flat_expr(self.known, scope, numbers, part[2]))
            self.drive_when(f"{name}.valid", scope, numbers, part[3])
        else:
            name = required(self.known, scope, numbers, part[1], TAKING)
            self.drive_when(f"{name}.ready", scope, numbers, part[2])

    def drive(self, name, expr):
        """Adds the `set` of a flat name to a flat expr."""
        self.body.append(("set", name, expr))

    def drive_name(self, name, other):
        """Adds the `set` of a flat name to the word of another one."""
        self.drive(name, ("name", other))

    def drive_when(self, name, scope, numbers, when):
        """Adds the `set` of a flat name to the expr behind a `when`, to 1 without one."""
        guard = flat_guard(self.known, scope, numbers, when)
        self.drive(name, ALWAYS if guard is None else guard)

    def state_claim(self, scope, numbers, part):
        """Makes a claim."""
        name = scope.full_name(part[1], numbers)
        if name in self.known.kinds or name in self.claimed:
            raise Twice(name)
        self.claimed[name] = True
        self.claims.append((name, flat_expr(self.known, scope, numbers, part[2])))

    def state_reg(self, scope, numbers, part):
        """Makes the `when` and `reset` of a register."""
        _, place, _, _, when, reset = part
        name = scope.full_name(place, numbers)
        guard = flat_guard(self.known, scope, numbers, when)
        self.guards[name] = (guard, flat_guard(self.known, scope, numbers, reset))

    def state_use(self, scope, numbers, part):
        """Makes the binds of a use, and enters its module."""
        inner = self.known.scopes[scope.full_name(part[1], numbers)]
        bound = {}
        for bind in part[4]:
            self.known.tally()
            port = inner.full_name(bind[1], numbers)
            kinds = ("input",) if bind[0] == "bind" else ("in", "out")
            if self.known.kinds.get(port) not in kinds or port in bound:
                raise BadUse(port)
            bound[port] = True
            if bind[0] == "bind":
                self.drive(port, flat_expr(self.known, scope, numbers, bind[2]))
            else:
                self.state_tie(port, scope, numbers, bind[2])
        for port in inner.ports:
            if port not in bound:
                raise BadUse(port)
        self.state_inner(inner)

    def state_inner(self, scope):
        """States the items of the module of a use next."""
        self.state_module(scope)

    def state_tie(self, port, scope, numbers, place):
        """Ties a link of a used module to one of the using module."""
        if self.known.kinds[port] == "in":
            name = required(self.known, scope, numbers, place, TAKING)
            self.drive_name(f"{port}.data", f"{name}.data")
            self.drive_name(f"{port}.valid", f"{name}.valid")
            self.drive_name(f"{name}.ready", f"{port}.ready")
        else:
            name = required(self.known, scope, numbers, place, GIVING)
            self.drive_name(f"{name}.data", f"{port}.data")
            self.drive_name(f"{name}.valid", f"{port}.valid")
            self.drive_name(f"{port}.ready", f"{name}.ready")

    def flat_design(self):
        """The flat design of all that is declared and stated."""
        known = self.known
        regs = []
        for name, width, start in known.regs:
            when, reset = self.guards.get(name, (None, None))
            regs.append((name, width, start, when, reset))
        return (
            "flat",
            tuple(known.inputs),
            tuple(known.outputs),
            tuple(known.wires),
            tuple(regs),
            tuple(known.mems),
            tuple(self.body),
            tuple(self.claims),
        )


def walk_stating(walk):
    """Does the walk through all that is declared; returns the flat design."""
    walk.state_module(walk.known.scopes[""])
    walk.walk()
    return walk.flat_design()
