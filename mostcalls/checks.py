"""What values are: the questions that all modules ask of values of any kind."""

LETTERS = "abcdefghijklmnopqrstuvwxyz"


def is_integer(value):
    """Whether a value is an integer; True and False are none."""
    return isinstance(value, int) and not isinstance(value, bool)


def is_count(value):
    """Whether a value is an integer from 0 on."""
    return is_integer(value) and value >= 0


def is_between(value, least, most):
    """Whether a value is an integer from least to most."""
    return is_integer(value) and least <= value <= most


def is_name(value):
    """Whether a value is a text of 1 to 8 lowercase letters."""
    return isinstance(value, str) and 1 <= len(value) <= 8 and all([sign in LETTERS for sign in value])


def is_path(value):
    """Whether a value is a tuple of integers from 0 on; that of the entry is the empty one."""
    return isinstance(value, tuple) and all([is_count(number) for number in value])
