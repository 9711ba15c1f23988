"""Reads places, consts and exprs from tokens."""
from beatfabric.errors import BadText
from beatfabric.grammar import CALLS, COMPARED, LEVELS, SIGNS, is_base_name, is_number


class Reader:
    """Tokens and the place that reading has come to."""

    def __init__(self, tokens):
        self.tokens = tokens
        self.at = 0

    def ahead(self):
        """The token that is read next, the empty string behind the last one."""
        if self.at < len(self.tokens):
            return self.tokens[self.at]
        return ""

    def taken(self):
        """The next token, which is known to be there; reading goes on behind it."""
        token = self.tokens[self.at]
        self.at += 1
        return token

    def need(self, word):
        """Reads over a token that must be this word."""
        if self.ahead() != word:
            raise BadText(self.at)
        self.at += 1

    def comes(self, word):
        """Reads over the next token if it is this word, and tells whether it was."""
        if self.ahead() != word:
            return False
        self.at += 1
        return True

    def need_name(self):
        """Reads a NAME."""
        if not is_base_name(self.ahead()):
            raise BadText(self.at)
        return self.taken()


def read_atom(reader):
    """Reads an ATOM as a const."""
    token = reader.ahead()
    if is_number(token):
        return ("int", int(reader.taken()))
    if is_base_name(token):
        return ("param", reader.taken())
    reader.need("(")
    const = read_const(reader)
    reader.need(")")
    return const


def read_product(reader):
    """Reads a const without `+` and `-` outside of parentheses."""
    const = read_atom(reader)
    while reader.comes("*"):
        const = ("*", const, read_atom(reader))
    return const


def read_const(reader):
    """Reads a CONST."""
    const = read_product(reader)
    while reader.ahead() in ("+", "-"):
        sign = reader.taken()
        const = (sign, const, read_product(reader))
    return const


def read_place(reader):
    """Reads a PLACE."""
    name = reader.need_name()
    if reader.comes("@"):
        return (name, read_atom(reader))
    return (name, None)


def read_placed(reader):
    """Reads a PLACE in an expr, with what may follow it."""
    place = read_place(reader)
    if reader.comes("."):
        return ("dot", place, read_place(reader))
    if reader.comes("["):
        address = read_expr(reader)
        reader.need("]")
        return ("read", place, address)
    if reader.comes("is"):
        return ("is", place, reader.need_name())
    return ("name", place)


def read_call(reader):
    """Reads one of the words of CALLS with its parts in parentheses."""
    word = reader.taken()
    tree = [word]
    for kind in CALLS[word]:
        reader.need("(" if len(tree) == 1 else ",")
        tree.append(read_const(reader) if kind == "const" else read_expr(reader))
    reader.need(")")
    return tuple(tree)


def read_bottom(reader):
    """Reads a BOTTOM."""
    if reader.comes("("):
        expr = read_expr(reader)
        reader.need(")")
        return expr
    if reader.ahead() in CALLS:
        return read_call(reader)
    return read_placed(reader)


def read_signed(reader):
    """Reads a BOTTOM with all signs in front of it."""
    signs = []
    while reader.ahead() in SIGNS:
        signs.append(reader.taken())
    expr = read_bottom(reader)
    for sign in reversed(signs):
        expr = (SIGNS[sign], expr)
    return expr


def binds_first(sign, level):
    """Whether an operator takes what stands between it and a next one of that level."""
    if LEVELS[sign] == level:
        return level != COMPARED
    return LEVELS[sign] > level


def close_tighter(operands, signs, level):
    """Joins the last operands by the last signs, as long as these bind before an operator of the level."""
    while signs and binds_first(signs[-1], level):
        right = operands.pop()
        left = operands.pop()
        operands.append((signs.pop(), left, right))


def read_expr(reader):
    """Reads an EXPR."""
    # Waiting operators stand in lists, not in calls of their own, so that deep texts stay readable.
    operands = [read_signed(reader)]
    signs = []
    while reader.ahead() in LEVELS:
        level = LEVELS[reader.ahead()]
        close_tighter(operands, signs, level)
        if level == COMPARED and signs and LEVELS[signs[-1]] == COMPARED:
            raise BadText(reader.at)
        signs.append(reader.taken())
        operands.append(read_signed(reader))
    close_tighter(operands, signs, 0)
    return operands[0]
