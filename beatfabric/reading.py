"""Reads the text of a design as a tree."""
from beatfabric.errors import BadText
from beatfabric.readexprs import Reader, read_const, read_expr, read_place
from beatfabric.tokens import tokens_of

MOST_MODULES = 8


def read_parts(reader, read_part):
    """Reads parts in braces, each by the same function."""
    reader.need("{")
    parts = []
    while not reader.comes("}"):
        parts.append(read_part(reader))
    return tuple(parts)


def read_list(reader, read_part):
    """Reads one and more parts that are separated by commas."""
    parts = [read_part(reader)]
    while reader.comes(","):
        parts.append(read_part(reader))
    return tuple(parts)


def read_name(reader):
    """Reads a NAME."""
    return reader.need_name()


def read_behind(reader, word):
    """Reads the EXPR behind a word; None if the word does not come."""
    return read_expr(reader) if reader.comes(word) else None


def read_else(reader):
    """Reads the statements behind `else`; none if the word does not come."""
    return read_parts(reader, read_statement) if reader.comes("else") else ()


def read_assigned(reader):
    """Reads a `set` or `claim`."""
    word = reader.taken()
    place = read_place(reader)
    reader.need("=")
    expr = read_expr(reader)
    reader.need(";")
    return (word, place, expr)


def read_if(reader):
    """Reads an `if`."""
    reader.need("if")
    condition = read_expr(reader)
    first = read_parts(reader, read_statement)
    return ("if", condition, first, read_else(reader))


def read_arm(reader):
    """Reads an arm of a `case`."""
    reader.need("at")
    consts = read_list(reader, read_const)
    return (consts, read_parts(reader, read_statement))


def read_case(reader):
    """Reads a `case`."""
    reader.need("case")
    expr = read_expr(reader)
    reader.need("{")
    arms = []
    while reader.ahead() == "at":
        arms.append(read_arm(reader))
    last = read_else(reader)
    reader.need("}")
    return ("case", expr, tuple(arms), last)


def read_write(reader):
    """Reads a `write`."""
    reader.need("write")
    place = read_place(reader)
    reader.need("[")
    address = read_expr(reader)
    reader.need("]")
    reader.need("=")
    expr = read_expr(reader)
    reader.need(";")
    return ("write", place, address, expr)


def read_go(reader):
    """Reads a `go`."""
    reader.need("go")
    place = read_place(reader)
    reader.need("to")
    name = reader.need_name()
    reader.need(";")
    return ("go", place, name)


def read_for(reader, read_part):
    """Reads a `for` over parts of one kind."""
    reader.need("for")
    name = reader.need_name()
    reader.need("in")
    low = read_const(reader)
    reader.need("..")
    high = read_const(reader)
    return ("for", name, low, high, read_parts(reader, read_part))


def read_inner_for(reader):
    """Reads a `for` inside of `if` and `case`."""
    return read_for(reader, read_statement)


def read_outer_for(reader):
    """Reads a `for` among the items of a module."""
    return read_for(reader, read_item)


def read_port(reader):
    """Reads an `input`, `output` or `wire`."""
    word = reader.taken()
    place = read_place(reader)
    reader.need(":")
    width = read_const(reader)
    reader.need(";")
    return (word, place, width)


def read_reg(reader):
    """Reads a `reg`."""
    reader.need("reg")
    place = read_place(reader)
    reader.need(":")
    width = read_const(reader)
    reader.need("=")
    start = read_const(reader)
    when = read_behind(reader, "when")
    reset = read_behind(reader, "reset")
    reader.need(";")
    return ("reg", place, width, start, when, reset)


def read_mem(reader):
    """Reads a `mem`."""
    reader.need("mem")
    place = read_place(reader)
    reader.need(":")
    width = read_const(reader)
    reader.need("[")
    size = read_const(reader)
    reader.need("]")
    reader.need(";")
    return ("mem", place, width, size)


def read_states(reader):
    """Reads a state machine."""
    reader.need("states")
    place = read_place(reader)
    reader.need("{")
    names = read_list(reader, read_name)
    reader.need("}")
    return ("states", place, names)


def read_link(reader):
    """Reads a `link`."""
    reader.need("link")
    if reader.ahead() not in ("in", "out", "own"):
        raise BadText(reader.at)
    side = reader.taken()
    place = read_place(reader)
    reader.need(":")
    width = read_const(reader)
    reader.need(";")
    return ("link", side, place, width)


def read_bind(reader):
    """Reads a bind or a tie."""
    if reader.comes("tie"):
        place = read_place(reader)
        reader.need("=")
        tree = ("tie", place, read_place(reader))
    else:
        place = read_place(reader)
        reader.need("=")
        tree = ("bind", place, read_expr(reader))
    reader.need(";")
    return tree


def read_bracketed(reader, read_part):
    """Reads a list of parts in parentheses; no parts if no bracket comes."""
    if not reader.comes("("):
        return ()
    parts = read_list(reader, read_part)
    reader.need(")")
    return parts


def read_use(reader):
    """Reads a `use`."""
    reader.need("use")
    place = read_place(reader)
    reader.need("=")
    module = reader.need_name()
    given = read_bracketed(reader, read_const)
    return ("use", place, module, given, read_parts(reader, read_bind))


def read_give(reader):
    """Reads a `give`."""
    reader.need("give")
    place = read_place(reader)
    reader.need("=")
    expr = read_expr(reader)
    when = read_behind(reader, "when")
    reader.need(";")
    return ("give", place, expr, when)


def read_take(reader):
    """Reads a `take`."""
    reader.need("take")
    place = read_place(reader)
    when = read_behind(reader, "when")
    reader.need(";")
    return ("take", place, when)


STATEMENTS = {
    "set": read_assigned,
    "if": read_if,
    "case": read_case,
    "write": read_write,
    "go": read_go,
    "for": read_inner_for,
}

ITEMS = {
    "input": read_port,
    "output": read_port,
    "wire": read_port,
    "reg": read_reg,
    "mem": read_mem,
    "states": read_states,
    "link": read_link,
    "use": read_use,
    "claim": read_assigned,
    "give": read_give,
    "take": read_take,
    "set": read_assigned,
    "if": read_if,
    "case": read_case,
    "write": read_write,
    "go": read_go,
    "for": read_outer_for,
}


def read_statement(reader):
    """Reads a STATEMENT inside of `if` and `case`."""
    if reader.ahead() not in STATEMENTS:
        raise BadText(reader.at)
    action = STATEMENTS[reader.ahead()]
    return action(reader)


def read_item(reader):
    """Reads an ITEM."""
    if reader.ahead() not in ITEMS:
        raise BadText(reader.at)
    action = ITEMS[reader.ahead()]
    return action(reader)


def read_module(reader):
    """Reads a MODULE."""
    reader.need("module")
    name = reader.need_name()
    params = read_bracketed(reader, read_name)
    return ("module", name, params, read_parts(reader, read_item))


def read_design(text):
    """The design that a text means."""
    reader = Reader(tokens_of(text))
    modules = [read_module(reader)]
    while len(modules) < MOST_MODULES and reader.ahead() == "module":
        modules.append(read_module(reader))
    if reader.at < len(reader.tokens):
        raise BadText(reader.at)
    return tuple(modules)
