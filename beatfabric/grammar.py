"""What the reader and the writer of texts share: the words, and how tight operators bind."""

LOWER = "abcdefghijklmnopqrstuvwxyz"
DIGITS = "0123456789"
NAME_SIGNS = "abcdefghijklmnopqrstuvwxyz0123456789"

RESERVED = (
    "module", "input", "output", "wire", "reg", "mem", "states", "link", "use", "tie", "claim", "set",
    "if", "else", "case", "at", "write", "go", "give", "to", "take", "for", "in", "out", "own", "when",
    "reset", "is", "word", "bits", "join", "wide", "sign", "any", "all", "odd", "pick",
)

# A greater level binds tighter.
LEVELS = {
    "|": 1,
    "^": 2,
    "&": 3,
    "==": 4, "!=": 4, "<": 4, "<=": 4,
    "<<": 5, ">>": 5,
    "+": 6, "-": 6,
    "*": 7,
}
COMPARED = 4
SIGNED = 8
BOTTOM = 9

CONST_LEVELS = {"+": 1, "-": 1, "*": 2}
CONST_ATOM = 3

SIGNS = {"~": "not", "-": "neg"}

# What stands between the parentheses of a word in an expr.
CALLS = {
    "word": ("const", "const"),
    "bits": ("expr", "const", "const"),
    "join": ("expr", "expr"),
    "wide": ("expr", "const"),
    "sign": ("expr", "const"),
    "any": ("expr",),
    "all": ("expr",),
    "odd": ("expr",),
    "pick": ("expr", "expr", "expr"),
}


def is_base_name(token):
    """Whether a token is a NAME."""
    if len(token) < 1 or len(token) > 8 or token[0] not in LOWER or token in RESERVED:
        return False
    return all([sign in NAME_SIGNS for sign in token])


def is_number(token):
    """Whether a token is a NUMBER."""
    if len(token) < 1 or len(token) > 3 or not all([sign in DIGITS for sign in token]):
        return False
    if token[0] == "0":
        return token == "0"
    return int(token) <= 255
