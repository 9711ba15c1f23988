"""Puts names that hang on each other in order."""


def in_order(names, links):
    """The names, each behind those on which it hangs; no name is on a ring."""
    wanted = {name: True for name in names}
    done = {}
    # A name stands in todo a second time, marked, behind which all that it hangs on is done.
    todo = [(name, False) for name in reversed(names)]
    while todo:
        name, opened = todo.pop()
        if opened:
            done[name] = True
        elif name not in done:
            todo.append((name, True))
            todo.extend([(other, False) for other in links.get(name, {}) if other in wanted and other not in done])
    return list(done)
