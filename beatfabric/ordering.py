"""Puts names that hang on each other in order, and finds those on rings."""


def in_order(names, links):
    """The names, each behind those on which it hangs; on a ring the one that is met first stands last."""
    wanted = {name: True for name in names}
    seen = {}
    done = []
    # A name stands in todo a second time, marked, behind which all that it hangs on is done.
    todo = [(name, False) for name in reversed(names)]
    while todo:
        name, opened = todo.pop()
        if opened:
            done.append(name)
        elif name not in seen:
            seen[name] = True
            todo.append((name, True))
            todo.extend([(other, False) for other in links.get(name, {}) if other in wanted and other not in seen])
    return done


def linked_from(start, links, seen):
    """The names that are reached from one of them and not seen yet; they are put into seen, a dict."""
    found = []
    todo = [start]
    while todo:
        name = todo.pop()
        if name not in seen:
            seen[name] = True
            found.append(name)
            todo.extend(links.get(name, []))
    return found


def on_rings(links):
    """The names that hang on themselves, if need be over others; links has for each name those on which it hangs."""
    hung = {}
    for name, others in links.items():
        for other in others:
            hung.setdefault(other, []).append(name)
    seen = {}
    found = []
    # The last name in order that is not seen yet is reached by all those that reach each other with it, and by others
    # only if these have been seen.
    for start in reversed(in_order(list(links), links)):
        group = linked_from(start, hung, seen)
        if len(group) > 1 or start in links[start]:
            found.extend(group)
    return found
