"""What the statements of flat and sized bodies set and write, and what their wires hang on."""
from beatfabric.sized import names_in


def parts_of(statement):
    """The bodies inside of an `if` or `case`, none for other statements."""
    if statement[0] == "if":
        return [statement[2], statement[3]]
    if statement[0] == "case":
        return [part for _, part in statement[2]] + [statement[3]]
    return []


def targets_of(statement):
    """All names that a statement sets or writes, at any depth, as the keys of a dict."""
    if statement[0] in ("set", "write"):
        return {statement[1]: True}
    targets = {}
    for part in parts_of(statement):
        for inner in part:
            targets.update(targets_of(inner))
    return targets


def statements_by_target(body):
    """For each name the list of the statements of the body itself that set or write it at any depth."""
    found = {}
    for statement in body:
        for name in targets_of(statement):
            found.setdefault(name, []).append(statement)
    return found


def sliced(body, name):
    """What is left of a body if only the sets and writes of one name stay in it."""
    rows = []
    for statement in body:
        if statement[0] in ("set", "write"):
            if statement[1] == name:
                rows.append(statement)
        else:
            rest = sliced_choice(statement, name)
            if any(parts_of(rest)):
                rows.append(rest)
    return tuple(rows)


def sliced_choice(statement, name):
    """What is left of an `if` or `case` if only the sets and writes of one name stay in it."""
    word, head, inner, last = statement
    if word == "if":
        return ("if", head, sliced(inner, name), sliced(last, name))
    arms = tuple([(numbers, sliced(part, name)) for numbers, part in inner])
    return ("case", head, arms, sliced(last, name))


def hang(links, around, statement):
    """Adds to links, a dict of dicts, on what the targets of a sized statement hang.

    around is a dict of the names in the conditions around the statement.
    """
    if statement[0] == "write":
        return
    if statement[0] == "set":
        names = links.setdefault(statement[1], {})
        names.update(around)
        names.update(names_in(statement[2]))
        return
    inner = dict(around)
    inner.update(names_in(statement[1]))
    for part in parts_of(statement):
        for row in part:
            hang(links, inner, row)


def links_of(body):
    """For each name that a sized body sets, the names on which it hangs, as the keys of a dict."""
    links = {}
    for statement in body:
        hang(links, {}, statement)
    return links
