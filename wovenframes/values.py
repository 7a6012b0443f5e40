"""What the program asks of plain values."""


def is_number(value):
    """Whether a value is an integer."""
    # Python counts True and False among the integers, the program does not.
    return isinstance(value, int) and not isinstance(value, bool)


def is_whole(value, least, most):
    """Whether a value is an integer from the least to the most one."""
    return is_number(value) and least <= value <= most


def are_numbers(value, many):
    """Whether a value is a tuple of so many integers."""
    return isinstance(value, tuple) and len(value) == many and all([is_number(number) for number in value])


def are_whole(value, many, least, most):
    """Whether a value is a tuple of so many integers from the least to the most one."""
    return are_numbers(value, many) and all([least <= number <= most for number in value])


def is_ascending(values):
    """Whether each of some values is less than the next one."""
    return all([one < other for one, other in zip(values, values[1:])])


def first_of(values):
    """The first one of a list, None if it is empty."""
    return values[0] if values else None
