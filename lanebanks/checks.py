"""Whether any values are integers, numbers and names."""

LETTERS = "abcdefghijklmnopqrstuvwxyz"


def is_integer(value):
    """Whether a value is an int that is not a bool."""
    return isinstance(value, int) and not isinstance(value, bool)


def is_within(value, least, most):
    """Whether a value is an integer from least to most."""
    return is_integer(value) and least <= value <= most


def is_number(value):
    """Whether a value is an integer from 0 on."""
    return is_integer(value) and value >= 0


def is_name(value):
    """Whether a value is a string of 1 to 8 letters from a to z."""
    return isinstance(value, str) and 1 <= len(value) <= 8 and all([letter in LETTERS for letter in value])
