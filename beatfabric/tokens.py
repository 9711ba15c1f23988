"""The tokens of a text."""

RUN_SIGNS = "abcdefghijklmnopqrstuvwxyzABCDEFGHIJKLMNOPQRSTUVWXYZ0123456789"
GAPS = (" ", "\n")
LONG_SIGNS = ("..", "==", "!=", "<=", "<<", ">>")


def run_end(text, at):
    """Where the run of letters and digits ends that begins at a place."""
    end = at
    while end < len(text) and text[end] in RUN_SIGNS:
        end += 1
    return end


def token_end(text, at):
    """Where the token ends that begins at a place."""
    if text[at] in RUN_SIGNS:
        return run_end(text, at)
    if text[at:at + 2] in LONG_SIGNS:
        return at + 2
    return at + 1


def tokens_of(text):
    """The tokens of a text, as strings."""
    tokens = []
    at = 0
    while at < len(text):
        if text[at] in GAPS:
            at += 1
        else:
            end = token_end(text, at)
            tokens.append(text[at:end])
            at = end
    return tuple(tokens)
