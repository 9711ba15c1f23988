"""The tokens of places, consts and exprs."""
from beatfabric.grammar import BOTTOM, CALLS, COMPARED, CONST_ATOM, CONST_LEVELS, LEVELS, SIGNED

SIGN_OF = {"not": "~", "neg": "-"}


def const_level(const):
    """How tight the outermost operator of a const binds."""
    if const[0] in CONST_LEVELS:
        return CONST_LEVELS[const[0]]
    return CONST_ATOM


def const_tokens(const, level):
    """The tokens of a const where only operators of this level and tighter ones can stand open."""
    if const_level(const) < level:
        return ["("] + const_tokens(const, 0) + [")"]
    if const[0] == "int":
        return [str(const[1])]
    if const[0] == "param":
        return [const[1]]
    own = const_level(const)
    return const_tokens(const[1], own) + [const[0]] + const_tokens(const[2], own + 1)


def place_tokens(place):
    """The tokens of a place."""
    name, index = place
    if index is None:
        return [name]
    return [name, "@"] + const_tokens(index, CONST_ATOM)


def expr_level(expr):
    """How tight the outermost operator of an expr binds."""
    if expr[0] in LEVELS:
        return LEVELS[expr[0]]
    if expr[0] in SIGN_OF:
        return SIGNED
    return BOTTOM


def call_tokens(expr):
    """The tokens of a word of CALLS with its parts in parentheses."""
    tokens = [expr[0]]
    for kind, part in zip(CALLS[expr[0]], expr[1:]):
        tokens.append("(" if len(tokens) == 1 else ",")
        tokens.extend(const_tokens(part, 0) if kind == "const" else expr_tokens(part, 0))
    return tokens + [")"]


def bottom_tokens(expr):
    """The tokens of an expr that begins with a place, or of a word of CALLS."""
    if expr[0] in CALLS:
        return call_tokens(expr)
    tokens = place_tokens(expr[1])
    if expr[0] == "dot":
        return tokens + ["."] + place_tokens(expr[2])
    if expr[0] == "read":
        return tokens + ["["] + expr_tokens(expr[2], 0) + ["]"]
    if expr[0] == "is":
        return tokens + ["is", expr[2]]
    return tokens


def expr_tokens(expr, level):
    """The tokens of an expr where only operators of this level and tighter ones can stand open."""
    own = expr_level(expr)
    if own < level:
        return ["("] + expr_tokens(expr, 0) + [")"]
    if own == BOTTOM:
        return bottom_tokens(expr)
    if own == SIGNED:
        return [SIGN_OF[expr[0]]] + expr_tokens(expr[1], SIGNED)
    # Only comparisons do not stand open to the left of one of their own level.
    left = own + 1 if own == COMPARED else own
    return expr_tokens(expr[1], left) + [expr[0]] + expr_tokens(expr[2], own + 1)
