"""Writes a tree as a text."""
from beatfabric.writeexprs import const_tokens, expr_tokens, place_tokens

LINE_ENDS = ("{", "}", ";")


def brace_tokens(parts):
    """The tokens of items, statements or binds in braces."""
    tokens = ["{"]
    for part in parts:
        tokens.extend(item_tokens(part))
    return tokens + ["}"]


def list_tokens(rows):
    """The tokens of several things, separated by commas."""
    tokens = []
    for row in rows:
        if tokens:
            tokens.append(",")
        tokens.extend(row)
    return tokens


def bracket_tokens(rows):
    """The tokens of several things in parentheses; none if there are no things."""
    if not rows:
        return []
    return ["("] + list_tokens(rows) + [")"]


def guard_tokens(word, expr):
    """A word and the tokens of its expr; none if the expr is None."""
    if expr is None:
        return []
    return [word] + expr_tokens(expr, 0)


def else_tokens(parts):
    """The tokens of an `else`; none if its part is empty."""
    if not parts:
        return []
    return ["else"] + brace_tokens(parts)


def set_tokens(tree):
    """The tokens of a word, a place and an expr."""
    return [tree[0]] + place_tokens(tree[1]) + ["="] + expr_tokens(tree[2], 0) + [";"]


def give_tokens(tree):
    """The tokens of a `give`."""
    _, place, expr, when = tree
    return ["give"] + place_tokens(place) + ["="] + expr_tokens(expr, 0) + guard_tokens("when", when) + [";"]


def take_tokens(tree):
    """The tokens of a `take`."""
    _, place, when = tree
    return ["take"] + place_tokens(place) + guard_tokens("when", when) + [";"]


def if_tokens(tree):
    """The tokens of an `if`."""
    _, condition, first, second = tree
    return ["if"] + expr_tokens(condition, 0) + brace_tokens(first) + else_tokens(second)


def case_tokens(tree):
    """The tokens of a `case`."""
    _, expr, arms, last = tree
    tokens = ["case"] + expr_tokens(expr, 0) + ["{"]
    for consts, part in arms:
        tokens.extend(["at"] + list_tokens([const_tokens(const, 0) for const in consts]) + brace_tokens(part))
    return tokens + else_tokens(last) + ["}"]


def write_tokens(tree):
    """The tokens of a `write`."""
    _, place, address, expr = tree
    return ["write"] + place_tokens(place) + ["["] + expr_tokens(address, 0) + ["]", "="] + expr_tokens(expr, 0) + [";"]


def go_tokens(tree):
    """The tokens of a `go`."""
    _, place, name = tree
    return ["go"] + place_tokens(place) + ["to", name, ";"]


def for_tokens(tree):
    """The tokens of a `for`."""
    _, name, low, high, parts = tree
    return ["for", name, "in"] + const_tokens(low, 0) + [".."] + const_tokens(high, 0) + brace_tokens(parts)


def port_tokens(tree):
    """The tokens of an `input`, `output` or `wire`."""
    word, place, width = tree
    return [word] + place_tokens(place) + [":"] + const_tokens(width, 0) + [";"]


def reg_tokens(tree):
    """The tokens of a `reg`."""
    _, place, width, start, when, reset = tree
    tokens = ["reg"] + place_tokens(place) + [":"] + const_tokens(width, 0) + ["="] + const_tokens(start, 0)
    return tokens + guard_tokens("when", when) + guard_tokens("reset", reset) + [";"]


def mem_tokens(tree):
    """The tokens of a `mem`."""
    _, place, width, size = tree
    return ["mem"] + place_tokens(place) + [":"] + const_tokens(width, 0) + ["["] + const_tokens(size, 0) + ["]", ";"]


def states_tokens(tree):
    """The tokens of a state machine."""
    _, place, names = tree
    return ["states"] + place_tokens(place) + ["{"] + list_tokens([[name] for name in names]) + ["}"]


def link_tokens(tree):
    """The tokens of a `link`."""
    _, side, place, width = tree
    return ["link", side] + place_tokens(place) + [":"] + const_tokens(width, 0) + [";"]


def bind_tokens(tree):
    """The tokens of a bind."""
    _, place, expr = tree
    return place_tokens(place) + ["="] + expr_tokens(expr, 0) + [";"]


def tie_tokens(tree):
    """The tokens of a tie."""
    _, place, other = tree
    return ["tie"] + place_tokens(place) + ["="] + place_tokens(other) + [";"]


def use_tokens(tree):
    """The tokens of a `use`."""
    _, place, module, numbers, binds = tree
    tokens = ["use"] + place_tokens(place) + ["=", module]
    return tokens + bracket_tokens([const_tokens(const, 0) for const in numbers]) + brace_tokens(binds)


def module_tokens(tree):
    """The tokens of a module."""
    _, name, params, parts = tree
    return ["module", name] + bracket_tokens([[param] for param in params]) + brace_tokens(parts)


WRITERS = {
    "input": port_tokens,
    "output": port_tokens,
    "wire": port_tokens,
    "reg": reg_tokens,
    "mem": mem_tokens,
    "states": states_tokens,
    "link": link_tokens,
    "use": use_tokens,
    "bind": bind_tokens,
    "tie": tie_tokens,
    "claim": set_tokens,
    "give": give_tokens,
    "take": take_tokens,
    "for": for_tokens,
    "set": set_tokens,
    "if": if_tokens,
    "case": case_tokens,
    "write": write_tokens,
    "go": go_tokens,
}


def item_tokens(tree):
    """The tokens of an item, a statement or a bind."""
    action = WRITERS[tree[0]]
    return action(tree)


def write_design(design):
    """The text of a design."""
    pieces = []
    for module in design:
        for token in module_tokens(module):
            pieces.append(token)
            pieces.append("\n" if token in LINE_ENDS else " ")
    return "".join(pieces)


def write_expr(expr):
    """The text of an expr."""
    return " ".join(expr_tokens(expr, 0))


def write_const(const):
    """The text of a const."""
    return " ".join(const_tokens(const, 0))
