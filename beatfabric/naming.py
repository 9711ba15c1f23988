"""Flat names and the copies of a `for`."""
from beatfabric.consts import const_value

PARTS = ("data", "valid", "ready")
MOVES = "moves"


def local_name(place, numbers):
    """The flat name of a place within its module."""
    name, index = place
    if index is None:
        return name
    return f"{name}@{const_value(index, numbers)}"


def copies_of(tree, numbers):
    """What the parameters mean in each of the copies of a `for`, in order."""
    _, name, low, high, _ = tree
    first = const_value(low, numbers)
    end = const_value(high, numbers)
    return [numbers + ((name, value),) for value in range(first, end)]
