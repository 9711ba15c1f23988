"""Flat names and the copies of a `for`."""
from beatfabric.consts import const_value

PARTS = ("data", "valid", "ready")
MOVES = "moves"


def local_name(place, numbers):
    """The flat name of a place within its module."""
    name, index = place
    if index is None:
        return name
    return f"{name}@{const_value(index, numbers)}"


def copies_of(tree, numbers):
    """What the parameters mean in each of the copies of a `for`, in order."""
    _, name, low, high, _ = tree
    first = const_value(low, numbers)
    end = const_value(high, numbers)
    return [numbers + ((name, value),) for value in range(first, end)]


def spread(parts, numbers):
    """Pairs (part, numbers) of items or statements, with the copies of each `for` in its place."""
    rows = []
    for part in parts:
        if part[0] == "for":
            for inner in copies_of(part, numbers):
                rows.extend(spread(part[4], inner))
        else:
            rows.append((part, numbers))
    return rows
