"""Exprs of a module as flat exprs."""
from beatfabric.consts import bounded_value, const_value
from beatfabric.errors import BadNumber, Unknown
from beatfabric.naming import MOVES, PARTS, local_name
from beatfabric.words import MOST_WIDTH, room_width

SIGNALS = ("input", "output", "wire", "reg", "states")
DOTTED = ("use", "in", "out", "own")


def required(known, scope, numbers, place, kinds):
    """The flat name of a place that must be declared as one of some kinds."""
    name = scope.full_name(place, numbers)
    known.require(name, kinds)
    return name


def state_word(known, name, state):
    """The flat expr of a state of a state machine."""
    states = known.machines[name]
    if state not in states:
        raise Unknown(state)
    return ("word", states.index(state), room_width(len(states)))


def flat_word(known, scope, numbers, expr):
    """The flat expr of a `word`."""
    value = const_value(expr[1], numbers)
    width = bounded_value(expr[2], numbers, 1, MOST_WIDTH)
    if value >= 1 << width:
        raise BadNumber(value)
    return ("word", value, width)


def flat_name(known, scope, numbers, expr):
    """The flat expr of a name."""
    return ("name", required(known, scope, numbers, expr[1], SIGNALS))


def flat_dot(known, scope, numbers, expr):
    """The flat expr of an output of a used module, or of a part of a link."""
    _, first, second = expr
    name = required(known, scope, numbers, first, DOTTED)
    inner = f"{name}.{local_name(second, numbers)}"
    if known.kinds[name] == "use":
        known.require(inner, ("output",))
        return ("name", inner)
    if second == (MOVES, None):
        return ("&", ("name", f"{name}.valid"), ("name", f"{name}.ready"))
    if second[1] is not None or second[0] not in PARTS:
        raise Unknown(inner)
    return ("name", inner)


def flat_read(known, scope, numbers, expr):
    """The flat expr of a `read`."""
    name = required(known, scope, numbers, expr[1], ("mem",))
    return ("read", name, flat_expr(known, scope, numbers, expr[2]))


def flat_is(known, scope, numbers, expr):
    """The flat expr of an `is`."""
    _, place, state = expr
    name = required(known, scope, numbers, place, ("states",))
    return ("==", ("name", name), state_word(known, name, state))


def flat_bits(known, scope, numbers, expr):
    """The flat expr of `bits`."""
    inner = flat_expr(known, scope, numbers, expr[1])
    high = const_value(expr[2], numbers)
    return ("bits", inner, high, const_value(expr[3], numbers))


def flat_told(known, scope, numbers, expr):
    """The flat expr of `wide` and `sign`."""
    inner = flat_expr(known, scope, numbers, expr[1])
    return (expr[0], inner, bounded_value(expr[2], numbers, 1, MOST_WIDTH))


FORMS = {
    "word": flat_word,
    "name": flat_name,
    "dot": flat_dot,
    "read": flat_read,
    "is": flat_is,
    "bits": flat_bits,
    "wide": flat_told,
    "sign": flat_told,
}


def flat_expr(known, scope, numbers, expr):
    """The flat expr of an expr of a module, where parameters mean these numbers."""
    if expr[0] in FORMS:
        action = FORMS[expr[0]]
        return action(known, scope, numbers, expr)
    parts = [expr[0]]
    for inner in expr[1:]:
        parts.append(flat_expr(known, scope, numbers, inner))
    return tuple(parts)


def flat_guard(known, scope, numbers, expr):
    """The flat expr behind `when` or `reset`, None without one."""
    if expr is None:
        return None
    return flat_expr(known, scope, numbers, expr)
