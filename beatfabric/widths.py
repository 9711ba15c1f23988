"""The widths of flat exprs."""
from beatfabric.sized import name_widths, sized


def width_of(flat, expr):
    """The width of a flat expr with the names of a flat design; None if it breaks a rule of widths."""
    whole = sized(name_widths(flat), expr)
    return None if whole is None else whole[1]
