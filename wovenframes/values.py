"""What the program asks of plain values."""

LONGEST_SIDE = 5


def is_number(value):
    """Whether a value is an integer."""
    # Python counts True and False among the integers, the program does not.
    return isinstance(value, int) and not isinstance(value, bool)


def is_whole(value, least, most):
    """Whether a value is an integer from the least to the most one."""
    return is_number(value) and least <= value <= most


def are_numbers(value, many):
    """Whether a value is a tuple of so many integers."""
    return isinstance(value, tuple) and len(value) == many and all([is_number(number) for number in value])


def are_whole(value, many, least, most):
    """Whether a value is a tuple of so many integers from the least to the most one."""
    return are_numbers(value, many) and all([least <= number <= most for number in value])


def is_ascending(values):
    """Whether each of some values is less than the next one."""
    return all([one < other for one, other in zip(values, values[1:])])


def first_of(values):
    """The first one of a list, None if it is empty."""
    return values[0] if values else None


def put_at(values, at, value):
    """A tuple with another value in one place."""
    return values[:at] + (value,) + values[at + 1:]


def is_table(value, signs):
    """Whether a value is a tuple of 1 to 5 strings, all of one length from 1 to 5, of some signs."""
    if not isinstance(value, tuple) or not 1 <= len(value) <= LONGEST_SIDE:
        return False
    if not all([isinstance(line, str) for line in value]):
        return False
    if not 1 <= len(value[0]) <= LONGEST_SIDE:
        return False
    return all([len(line) == len(value[0]) and all([sign in signs for sign in line]) for line in value])


def is_cell(lines, value):
    """Whether a value is a pair (row, column) of a cell of a table of some lines."""
    if not isinstance(value, tuple) or len(value) != 2:
        return False
    return is_whole(value[0], 0, len(lines) - 1) and is_whole(value[1], 0, len(lines[0]) - 1)


def picks(choices):
    """The list of all tuples of one thing of each of some lists, in the order of the lists."""
    rows = [()]
    for things in choices:
        rows = [row + (thing,) for row in rows for thing in things]
    return rows
