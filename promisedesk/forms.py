"""Forms of values: questions that may be asked of any value, and fail for none."""


def is_whole(value):
    """Whether value is an integer."""
    # A bool is an int for Python, but no integer here.
    return isinstance(value, int) and not isinstance(value, bool)


def is_between(value, low, high):
    """Whether value is an integer from low to high."""
    return is_whole(value) and low <= value <= high


def is_sequence(value):
    """Whether value is a list or a tuple."""
    return isinstance(value, (list, tuple))


def has_length(value, least, most):
    """Whether value is a sequence of least to most elements."""
    return is_sequence(value) and least <= len(value) <= most


def all_below(value, end):
    """Whether value is a sequence of integers from 0 on, each less than end."""
    return is_sequence(value) and all([is_between(one, 0, end - 1) for one in value])


def is_rising(values):
    """Whether no element of the sequence is less than the one ahead of it."""
    return all([one <= behind for one, behind in zip(values, values[1:])])


def is_ascending(values):
    """Whether each element of the sequence is greater than the one ahead of it."""
    return all([one < behind for one, behind in zip(values, values[1:])])


def is_ascending_below(value, end):
    """Whether value is an ascending sequence of integers from 0 on, each less than end."""
    return all_below(value, end) and is_ascending(value)
