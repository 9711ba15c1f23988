"""Looks for faults in a flat design."""
from beatfabric.bodies import links_of, parts_of, statements_by_target
from beatfabric.errors import BadWidth, Ring, TwoDrivers, Undriven
from beatfabric.rings import shortest_ring
from beatfabric.sized import name_widths, sized, sized_body


def expr_width(widths, expr):
    """The width of a flat expr, None if it breaks a rule of widths."""
    whole = sized(widths, expr)
    return None if whole is None else whole[1]


def check_numbers(arms, width):
    """Looks for wrong or double numbers of a `case`."""
    seen = {}
    for numbers, _ in arms:
        for number in numbers:
            if number >= 1 << width or number in seen:
                raise BadWidth("case")
            seen[number] = True


def check_head(widths, statement):
    """Looks for wrong widths in the condition of an `if`, or the expr and numbers of a `case`."""
    width = expr_width(widths, statement[1])
    if statement[0] == "if" and width != 1:
        raise BadWidth("if")
    if statement[0] == "case":
        if width is None:
            raise BadWidth("case")
        check_numbers(statement[2], width)


def check_widths(widths, body):
    """Looks for wrong widths in statements."""
    for statement in body:
        if statement[0] in ("set", "write"):
            name = statement[1]
            whole = [expr_width(widths, expr) for expr in statement[2:]]
            if None in whole or whole[-1] != widths[name]:
                raise BadWidth(name)
        else:
            check_head(widths, statement)
            for part in parts_of(statement):
                check_widths(widths, part)


def check_bits(widths, rows):
    """Looks for exprs that are no bits; rows are pairs of the name to tell and an expr or None."""
    for name, expr in rows:
        if expr is not None and expr_width(widths, expr) != 1:
            raise BadWidth(name)


def is_full(widths, statement):
    """Whether the numbers of a `case` are all words of the width of its expr."""
    many = sum([len(numbers) for numbers, _ in statement[2]])
    return many == 1 << expr_width(widths, statement[1])


def always_sets(widths, statement, name):
    """Whether a statement sets a wire on every way."""
    if statement[0] == "set":
        return statement[1] == name
    if statement[0] == "write":
        return False
    parts = parts_of(statement)
    if statement[0] == "case" and is_full(widths, statement):
        parts.pop()
    return all([body_sets(widths, part, name) for part in parts])


def body_sets(widths, body, name):
    """Whether a body sets a wire on every way."""
    return any([always_sets(widths, statement, name) for statement in body])


def check_drivers(flat, widths):
    """Looks for wires, registers and memories with wrong drivers."""
    _, _, _, wires, regs, mems, body, _ = flat
    found = statements_by_target(body)
    for name, _ in wires:
        statements = found.get(name, [])
        if len(statements) > 1:
            raise TwoDrivers(name)
        if not body_sets(widths, statements, name):
            raise Undriven(name)
    for row in regs + mems:
        if len(found.get(row[0], [])) > 1:
            raise TwoDrivers(row[0])


def check_rings(flat, widths):
    """Looks for wires that hang on each other."""
    _, _, _, wires, _, _, body, _ = flat
    links = links_of(sized_body(widths, body))
    ring = shortest_ring(tuple([(name, tuple(links[name])) for name, _ in wires]))
    if ring:
        raise Ring(ring)


def check(flat):
    """Raises the first fault of a flat design."""
    _, _, _, _, regs, _, body, claims = flat
    widths = name_widths(flat)
    guards = []
    for name, _, _, when, reset in regs:
        guards.extend([(name, when), (name, reset)])
    check_bits(widths, guards)
    check_widths(widths, body)
    check_bits(widths, claims)
    check_drivers(flat, widths)
    check_rings(flat, widths)
