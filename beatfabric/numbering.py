"""Rules for numbers and names that several judges ask for."""


def is_thing(number, many):
    """Whether a number is one of so many things."""
    return 0 <= number < many


def all_different(names):
    """Whether no name stands twice among names."""
    return len(set(names)) == len(names)


def are_ascending(numbers):
    """Whether each number is greater than the one ahead of it."""
    return all([low < high for low, high in zip(numbers, numbers[1:])])
