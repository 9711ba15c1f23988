"""The values of consts."""
from beatfabric.errors import BadNumber, Unknown

GREATEST = 255


def param_value(name, numbers):
    """What a parameter means; a later pair hides an earlier one."""
    for other, value in reversed(numbers):
        if other == name:
            return value
    raise Unknown(name)


def const_value(const, numbers):
    """The value of a const, with pairs (name, value) for the parameters."""
    if const[0] == "int":
        value = const[1]
    elif const[0] == "param":
        value = param_value(const[1], numbers)
    else:
        left = const_value(const[1], numbers)
        right = const_value(const[2], numbers)
        if const[0] == "+":
            value = left + right
        elif const[0] == "-":
            value = left - right
        else:
            value = left * right
    if value < 0 or value > GREATEST:
        raise BadNumber(value)
    return value


def bounded_value(const, numbers, low, high):
    """The value of a const that must be within bounds."""
    value = const_value(const, numbers)
    if value < low or value > high:
        raise BadNumber(value)
    return value
