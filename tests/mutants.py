"""Wrong copies of right graphs, papers and nets, in the told shape: other numbers, words and lengths."""

NUMBERS = (-1000000, -3, -2, -1, 0, 1, 2, 3, 4, 5, 7, 8, 9, 15, 16, 255, 256, 1000000)


def places_of(tree, path=()):
    """The paths of all integers and strings of a tree."""
    if isinstance(tree, tuple):
        found = []
        for at, part in enumerate(tree):
            found.extend(places_of(part, path + (at,)))
        return found
    return [path] if isinstance(tree, (int, str)) else []


def at_place(tree, path):
    for at in path:
        tree = tree[at]
    return tree


def replaced(tree, path, part):
    if not path:
        return part
    return tree[:path[0]] + (replaced(tree[path[0]], path[1:], part),) + tree[path[0] + 1:]


def changed(source, tree):
    """The tree with one integer or string changed."""
    places = places_of(tree)
    if not places:
        return tree
    path = source.choice(places)
    part = at_place(tree, path)
    if isinstance(part, int):
        return replaced(tree, path, source.choice(NUMBERS + (part - 1, part + 1)))
    words = [at_place(tree, other) for other in places]
    return replaced(tree, path, source.choice([word for word in words if isinstance(word, str)] + ["zz", ""]))


def relisted(source, rows):
    """The rows with one of them dropped, doubled or moved."""
    if not rows:
        return rows
    at = source.randrange(len(rows))
    kind = source.randrange(3)
    rest = rows[:at] + rows[at + 1:]
    if kind == 0:
        return rest
    to = source.randrange(len(rows))
    return (rows if kind == 1 else rest)[:to] + (rows[at],) + (rows if kind == 1 else rest)[to:]
