"""Whether any values are tuples of the kinds that papers keep."""

from lanebanks.checks import is_within


def are_tuples(value, many):
    """Whether a value is a tuple of so many tuples."""
    return isinstance(value, tuple) and len(value) == many and all([isinstance(part, tuple) for part in value])


def is_row_below(value, sizes):
    """Whether a value is a tuple of integers from 0 on, one below each of these sizes."""
    if not isinstance(value, tuple) or len(value) != len(sizes):
        return False
    return all([is_within(part, 0, size - 1) for part, size in zip(value, sizes)])
