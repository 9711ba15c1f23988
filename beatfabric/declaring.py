"""The declaring walk of flattening."""
from beatfabric.consts import bounded_value, const_value
from beatfabric.errors import BadNumber, BadUse, Twice, Unknown
from beatfabric.scopes import Declared, Scope, Walk, first_double
from beatfabric.words import MOST_WIDTH, room_width

MOST_SIZE = 8
MOST_STATES = 16


class Declaring(Walk):
    """The declaring walk through a design."""

    def __init__(self, design):
        Walk.__init__(self, Declared(design))

    def enter(self, scope, given):
        """Enters a module with numbers for its parameters."""
        _, _, params, parts = self.known.design[scope.at]
        if len(given) != len(params):
            raise BadUse(scope.name)
        double = first_double(params)
        if double is not None:
            raise Twice(double)
        scope.numbers = tuple(zip(params, given))
        self.put_ahead(scope, scope.numbers, parts)

    def look_at(self, scope, numbers, part):
        """Declares an item, if it is one that declares."""
        if part[0] == "use":
            self.known.tally()
            self.declare_use(scope, numbers, part)
        elif part[0] in DECLARERS:
            self.known.tally()
            action = DECLARERS[part[0]]
            action(self.known, scope, numbers, part)

    def declare_use(self, scope, numbers, part):
        """Declares a use and enters its module."""
        _, place, module, consts, _ = part
        name = scope.full_name(place, numbers)
        ahead = [tree[1] for tree in self.known.design[:scope.at]]
        if module not in ahead:
            raise Unknown(module)
        given = [const_value(const, numbers) for const in consts]
        self.known.declare(name, "use")
        inner = Scope(ahead.index(module), name)
        self.known.scopes[name] = inner
        self.enter_use(inner, given)

    def enter_use(self, scope, given):
        """Enters the module of a use."""
        self.enter(scope, given)


def declare_port(known, scope, numbers, part):
    """Declares an input, output or wire."""
    word, place, const = part
    name = scope.full_name(place, numbers)
    width = bounded_value(const, numbers, 1, MOST_WIDTH)
    known.declare(name, word)
    if word == "input":
        scope.ports.append(name)
    if word == "input" and not scope.name:
        known.inputs.append((name, width))
    else:
        known.wires.append((name, width))
    if word == "output" and not scope.name:
        known.outputs.append((name, width))


def declare_reg(known, scope, numbers, part):
    """Declares a register; its exprs are made by the stating walk."""
    _, place, const, first, _, _ = part
    name = scope.full_name(place, numbers)
    width = bounded_value(const, numbers, 1, MOST_WIDTH)
    start = bounded_value(first, numbers, 0, (1 << width) - 1)
    known.declare(name, "reg")
    known.regs.append((name, width, start))


def declare_mem(known, scope, numbers, part):
    """Declares a memory."""
    _, place, const, many = part
    name = scope.full_name(place, numbers)
    width = bounded_value(const, numbers, 1, MOST_WIDTH)
    size = bounded_value(many, numbers, 1, MOST_SIZE)
    known.declare(name, "mem")
    known.mems.append((name, width, size))


def declare_states(known, scope, numbers, part):
    """Declares a state machine and its register."""
    _, place, names = part
    name = scope.full_name(place, numbers)
    if len(names) > MOST_STATES:
        raise BadNumber(len(names))
    double = first_double(names)
    if double is not None:
        raise Twice(double)
    known.declare(name, "states")
    known.machines[name] = names
    known.regs.append((name, room_width(len(names)), 0))


def declare_link(known, scope, numbers, part):
    """Declares a link and its three parts."""
    _, side, place, const = part
    name = scope.full_name(place, numbers)
    width = bounded_value(const, numbers, 1, MOST_WIDTH)
    known.declare(name, side)
    if side != "own":
        scope.ports.append(name)
    forth = [(f"{name}.data", width), (f"{name}.valid", 1)]
    back = [(f"{name}.ready", 1)]
    if scope.name or side == "own":
        known.wires.extend(forth + back)
    elif side == "in":
        known.inputs.extend(forth)
        known.wires.extend(back)
        known.outputs.extend(back)
    else:
        known.wires.extend(forth)
        known.outputs.extend(forth)
        known.inputs.extend(back)


DECLARERS = {
    "input": declare_port,
    "output": declare_port,
    "wire": declare_port,
    "reg": declare_reg,
    "mem": declare_mem,
    "states": declare_states,
    "link": declare_link,
}


def walk_declaring(walk, at, numbers):
    """Does the walk from a module on, with numbers for its parameters; returns all that is declared."""
    top = Scope(at, "")
    walk.known.scopes[""] = top
    walk.enter(top, numbers)
    walk.walk()
    return walk.known
