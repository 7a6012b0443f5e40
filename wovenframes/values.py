"""What the program asks of plain values."""


def is_whole(value, least, most):
    """Whether a value is an integer from the least to the most one."""
    # Python counts True and False among the integers, the program does not.
    return isinstance(value, int) and not isinstance(value, bool) and least <= value <= most


def is_ascending(values):
    """Whether each of some values is less than the next one."""
    return all([one < other for one, other in zip(values, values[1:])])
