"""Flat exprs and statements with the widths of all their parts.

A sized expr is ("word", width, value), ("name", width, name), ("read", width, name, address) or
(op, width, low, operands) with an operation on words and a tuple of sized exprs.
"""
from beatfabric.words import MOST_WIDTH

OPERATIONS = {
    "|": "or",
    "^": "xor",
    "&": "and",
    "==": "eq",
    "!=": "ne",
    "<": "lt",
    "<=": "le",
    "<<": "shl",
    ">>": "shr",
    "+": "add",
    "-": "sub",
    "*": "mul",
}
ALIKE = ("or", "xor", "and", "add", "sub", "mul")
COMPARING = ("eq", "ne", "lt", "le")


def joined_width(widths):
    """The width of a `join`, None if it is too great."""
    total = sum(widths)
    return total if total <= MOST_WIDTH else None


def picked_width(widths):
    """The width of a `pick`, None if the widths do not fit."""
    condition, left, right = widths
    return left if condition == 1 and left == right else None


def cut_width(op, width, told, low):
    """The width of `wide`, `sign` and `bits`, None if the told one does not fit."""
    if op == "sign" and told < width:
        return None
    if op == "bits" and (told < 1 or low < 0 or low + told > width):
        return None
    return told


def op_width(op, widths, told, low):
    """The width of an operation on operands with these widths, None if they do not fit.

    told is the width that `wide`, `sign` and `bits` are to have; low is the lowest bit of `bits`.
    """
    if op in ALIKE:
        return widths[0] if widths[0] == widths[1] else None
    if op in COMPARING:
        return 1 if widths[0] == widths[1] else None
    if op in ("not", "neg", "shl", "shr"):
        return widths[0]
    if op in ("any", "all", "odd"):
        return 1
    if op == "pick":
        return picked_width(widths)
    if op == "join":
        return joined_width(widths)
    return cut_width(op, widths[0], told, low)


def operation_of(expr):
    """The operation of a flat expr, the width that it tells, its lowest bit, and its operands."""
    if expr[0] == "bits":
        _, inner, high, low = expr
        return ("bits", high - low + 1, low, (inner,))
    if expr[0] in ("wide", "sign"):
        return (expr[0], expr[2], 0, (expr[1],))
    return (OPERATIONS.get(expr[0], expr[0]), 0, 0, expr[1:])


def sized(widths, expr):
    """The sized expr of a flat one, given the widths of all names; None if it breaks a rule of widths."""
    if expr[0] == "word":
        return ("word", expr[2], expr[1])
    if expr[0] == "name":
        return ("name", widths[expr[1]], expr[1])
    if expr[0] == "read":
        address = sized(widths, expr[2])
        return None if address is None else ("read", widths[expr[1]], expr[1], address)
    op, told, low, inner = operation_of(expr)
    operands = []
    for part in inner:
        operand = sized(widths, part)
        if operand is None:
            return None
        operands.append(operand)
    width = op_width(op, [operand[1] for operand in operands], told, low)
    return None if width is None else (op, width, low, tuple(operands))


def sized_guard(widths, expr):
    """The sized expr of a `when` or `reset`, None without one."""
    return None if expr is None else sized(widths, expr)


def sized_statement(widths, statement):
    """The sized statement of a flat one that breaks no rule of widths."""
    word = statement[0]
    if word == "set":
        return ("set", statement[1], sized(widths, statement[2]))
    if word == "write":
        return ("write", statement[1], sized(widths, statement[2]), sized(widths, statement[3]))
    head = sized(widths, statement[1])
    last = sized_body(widths, statement[3])
    if word == "if":
        return ("if", head, sized_body(widths, statement[2]), last)
    arms = tuple([(numbers, sized_body(widths, part)) for numbers, part in statement[2]])
    return ("case", head, arms, last)


def sized_body(widths, body):
    """The sized statements of flat ones that break no rule of widths."""
    return tuple([sized_statement(widths, statement) for statement in body])


def name_widths(flat):
    """The width of each input, wire, register and memory of a flat design."""
    _, inputs, _, wires, regs, mems, _, _ = flat
    widths = {}
    for row in inputs + wires + regs + mems:
        widths[row[0]] = row[1]
    return widths


def names_in(expr):
    """The names that stand in a sized expr, each once, as the keys of a dict."""
    names = {}
    todo = [expr]
    while todo:
        part = todo.pop()
        if part[0] == "name":
            names[part[2]] = True
        elif part[0] == "read":
            todo.append(part[3])
        elif part[0] != "word":
            todo.extend(part[3])
    return names
