"""Makes the flat design of a design."""
from beatfabric.declaring import Declaring, walk_declaring
from beatfabric.errors import Twice
from beatfabric.scopes import first_double
from beatfabric.stating import Stating, walk_stating


def flatten(design, numbers=()):
    """The flat design, with numbers for the parameters of the last module."""
    double = first_double([module[1] for module in design])
    if double is not None:
        raise Twice(double)
    known = walk_declaring(Declaring(design), len(design) - 1, numbers)
    return walk_stating(Stating(known))
