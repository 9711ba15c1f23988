"""Writes a tree as a text."""
from beatfabric.writeexprs import const_tokens, expr_tokens, place_tokens

LINE_ENDS = ("{", "}", ";")


def in_braces(parts):
    """The tokens of items, statements or binds in braces."""
    tokens = ["{"]
    for part in parts:
        tokens.extend(item_tokens(part))
    return tokens + ["}"]


def listed(rows):
    """The tokens of several things, separated by commas."""
    tokens = []
    for row in rows:
        if tokens:
            tokens.append(",")
        tokens.extend(row)
    return tokens


def bracketed(rows):
    """The tokens of several things in parentheses; none if there are no things."""
    if not rows:
        return []
    return ["("] + listed(rows) + [")"]


def behind(word, expr):
    """A word and the tokens of its expr; none if the expr is None."""
    if expr is None:
        return []
    return [word] + expr_tokens(expr, 0)


def else_tokens(parts):
    """The tokens of an `else`; none if its part is empty."""
    if not parts:
        return []
    return ["else"] + in_braces(parts)


def assigned(tree):
    """The tokens of a word, a place and an expr."""
    return [tree[0]] + place_tokens(tree[1]) + ["="] + expr_tokens(tree[2], 0) + [";"]


def given(tree):
    """The tokens of a `give`."""
    _, place, expr, when = tree
    return ["give"] + place_tokens(place) + ["="] + expr_tokens(expr, 0) + behind("when", when) + [";"]


def taken(tree):
    """The tokens of a `take`."""
    _, place, when = tree
    return ["take"] + place_tokens(place) + behind("when", when) + [";"]


def chosen(tree):
    """The tokens of an `if`."""
    _, condition, first, second = tree
    return ["if"] + expr_tokens(condition, 0) + in_braces(first) + else_tokens(second)


def cased(tree):
    """The tokens of a `case`."""
    _, expr, arms, last = tree
    tokens = ["case"] + expr_tokens(expr, 0) + ["{"]
    for consts, part in arms:
        tokens.extend(["at"] + listed([const_tokens(const, 0) for const in consts]) + in_braces(part))
    return tokens + else_tokens(last) + ["}"]


def written(tree):
    """The tokens of a `write`."""
    _, place, address, expr = tree
    return ["write"] + place_tokens(place) + ["["] + expr_tokens(address, 0) + ["]", "="] + expr_tokens(expr, 0) + [";"]


def gone(tree):
    """The tokens of a `go`."""
    _, place, name = tree
    return ["go"] + place_tokens(place) + ["to", name, ";"]


def repeated(tree):
    """The tokens of a `for`."""
    _, name, low, high, parts = tree
    return ["for", name, "in"] + const_tokens(low, 0) + [".."] + const_tokens(high, 0) + in_braces(parts)


def port(tree):
    """The tokens of an `input`, `output` or `wire`."""
    word, place, width = tree
    return [word] + place_tokens(place) + [":"] + const_tokens(width, 0) + [";"]


def reg(tree):
    """The tokens of a `reg`."""
    _, place, width, start, when, reset = tree
    tokens = ["reg"] + place_tokens(place) + [":"] + const_tokens(width, 0) + ["="] + const_tokens(start, 0)
    return tokens + behind("when", when) + behind("reset", reset) + [";"]


def mem(tree):
    """The tokens of a `mem`."""
    _, place, width, size = tree
    return ["mem"] + place_tokens(place) + [":"] + const_tokens(width, 0) + ["["] + const_tokens(size, 0) + ["]", ";"]


def machine(tree):
    """The tokens of a state machine."""
    _, place, names = tree
    return ["states"] + place_tokens(place) + ["{"] + listed([[name] for name in names]) + ["}"]


def link(tree):
    """The tokens of a `link`."""
    _, side, place, width = tree
    return ["link", side] + place_tokens(place) + [":"] + const_tokens(width, 0) + [";"]


def bind(tree):
    """The tokens of a bind."""
    _, place, expr = tree
    return place_tokens(place) + ["="] + expr_tokens(expr, 0) + [";"]


def tie(tree):
    """The tokens of a tie."""
    _, place, other = tree
    return ["tie"] + place_tokens(place) + ["="] + place_tokens(other) + [";"]


def use(tree):
    """The tokens of a `use`."""
    _, place, module, numbers, binds = tree
    tokens = ["use"] + place_tokens(place) + ["=", module]
    return tokens + bracketed([const_tokens(const, 0) for const in numbers]) + in_braces(binds)


def module_tokens(tree):
    """The tokens of a module."""
    _, name, params, parts = tree
    return ["module", name] + bracketed([[param] for param in params]) + in_braces(parts)


WRITERS = {
    "input": port,
    "output": port,
    "wire": port,
    "reg": reg,
    "mem": mem,
    "states": machine,
    "link": link,
    "use": use,
    "bind": bind,
    "tie": tie,
    "claim": assigned,
    "give": given,
    "take": taken,
    "for": repeated,
    "set": assigned,
    "if": chosen,
    "case": cased,
    "write": written,
    "go": gone,
}


def item_tokens(tree):
    """The tokens of an item, a statement or a bind."""
    action = WRITERS[tree[0]]
    return action(tree)


def write_design(design):
    """The text of a design."""
    pieces = []
    for module in design:
        for token in module_tokens(module):
            pieces.append(token)
            pieces.append("\n" if token in LINE_ENDS else " ")
    return "".join(pieces)


def write_expr(expr):
    """The text of an expr."""
    return " ".join(expr_tokens(expr, 0))


def write_const(const):
    """The text of a const."""
    return " ".join(const_tokens(const, 0))
