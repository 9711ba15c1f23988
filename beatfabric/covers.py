"""Covers of nets by tables of few inputs: the judge, and the depth."""
from beatfabric.cones import is_cut
from beatfabric.nets import ends_of, first_and
from beatfabric.numbering import are_ascending, is_thing


def is_source(net, literal):
    """Whether a literal is a plain literal of an input or a register."""
    return literal & 1 == 0 and 0 < literal // 2 < first_and(net)


def is_leaf(net, literal, leaf, entries):
    """Whether a literal can be a leaf of the entry of another one."""
    if not is_source(net, leaf) and leaf not in entries:
        return False
    return leaf // 2 < literal // 2 or (leaf // 2 == literal // 2 and leaf < literal)


def is_entry(net, k, entry, entries):
    """Whether an entry of a cover is right, among entries, a dict with their literals as its keys."""
    literal, leaves = entry
    if is_source(net, literal) or len(leaves) > k or not are_ascending([leaf // 2 for leaf in leaves]):
        return False
    if not all([is_leaf(net, literal, leaf, entries) and leaf > 1 for leaf in leaves]):
        return False
    return is_cut(net, literal // 2, {leaf // 2: True for leaf in leaves})


def judge_cover(net, k, cover):
    """Whether a cover with tables of at most k inputs is right for a net."""
    literals = [literal for literal, _ in cover]
    many = 2 * (first_and(net) + len(net[3]))
    if not are_ascending(literals) or not all([is_thing(literal, many) for literal in literals]):
        return False
    entries = {literal: True for literal in literals}
    if not all([is_entry(net, k, entry, entries) for entry in cover]):
        return False
    needed = {literal: True for literal in ends_of(net)}
    if not all([is_source(net, literal) or literal in entries for literal in needed]):
        return False
    for _, leaves in cover:
        needed.update({leaf: True for leaf in leaves})
    return all([literal in needed for literal in literals])


def depth_of(net, cover):
    """The depth of a taken cover."""
    rows = {}
    for literal, leaves in cover:
        # The leaves that are entries stand ahead of what they are leaves of.
        rows[literal] = 1 + max([rows.get(leaf, 0) for leaf in leaves], default=0)
    return max(list(rows.values()), default=0)
