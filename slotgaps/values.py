"""Questions about values of any kind."""


def is_integer(value):
    """Return whether a value is an int that is not a bool."""
    return isinstance(value, int) and not isinstance(value, bool)


def is_index(value, many):
    """Return whether a value of any kind is the index of one of so many things."""
    return is_integer(value) and 0 <= value < many


def is_tuple(value, least, most):
    """Return whether a value is a tuple with a length from least to most."""
    return isinstance(value, tuple) and least <= len(value) <= most
