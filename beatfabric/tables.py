"""Tables in place of the ands of a net, and their runs."""
from beatfabric.cones import cone_tables, full_table, literal_table, variable_table
from beatfabric.nets import first_and
from beatfabric.words import from_bits, to_bits


def table_bits(net, literal, leaves):
    """The bits of a literal for all bits of leaves."""
    full = full_table(len(leaves))
    tables = {}
    for at, leaf in enumerate(leaves):
        tables[leaf // 2] = variable_table(at, len(leaves)) ^ (full if leaf & 1 else 0)
    found = cone_tables(net, [literal // 2], tables, full)
    return to_bits(1 << len(leaves), literal_table(found, literal, full))


def tables_of(net, cover):
    """The tables of a net and a taken cover."""
    _, inputs, regs, _, outputs, claims = net
    first = first_and(net)
    refs = {2 * node: node - 1 for node in range(1, first)}
    for at, (literal, _) in enumerate(cover):
        refs[literal] = first - 1 + at
    tables = []
    for literal, leaves in cover:
        tables.append((tuple([refs[leaf] for leaf in leaves]), table_bits(net, literal, leaves)))
    contents = tuple([(name, start, refs[follow]) for name, start, follow in regs])
    shown = tuple([(name, refs[literal]) for name, literal in outputs + claims])
    return ("tables", inputs, contents, tuple(tables), shown)


class TablesRun:
    """A run of the tables of a net."""

    def __init__(self, tables):
        self.tables = tables
        self.now = tuple([start for _, start, _ in tables[2]])

    def beat(self, given):
        """Does one beat, and returns what is shown."""
        _, _, regs, tables, outputs = self.tables
        bits = list(given) + list(self.now)
        for leaves, rows in tables:
            bits.append(rows[from_bits([bits[leaf] for leaf in leaves])])
        self.now = tuple([bits[follow] for _, _, follow in regs])
        return tuple([bits[ref] for _, ref in outputs])

    def beats(self, rows):
        """Does a beat for each of the rows, when it is asked for, and yields what is shown."""
        for given in rows:
            yield self.beat(given)

    @property
    def state(self):
        """The bits of the registers."""
        return self.now

    @state.setter
    def state(self, value):
        self.now = value

    def resume(self, state):
        """Goes on from a state."""
        self.now = state
