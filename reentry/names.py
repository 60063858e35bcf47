"""What counts as a name, a size and an integer."""

from reentry.limits import MAX_SIZE

LETTERS = "abcdefghijklmnopqrstuvwxyz"
SIGNS = "abcdefghijklmnopqrstuvwxyz0123456789"
LONGEST_NAME = 8


def is_name(value):
    """Whether any value is a name."""
    if not isinstance(value, str) or not 1 <= len(value) <= LONGEST_NAME:
        return False
    return value[0] in LETTERS and all([sign in SIGNS for sign in value])


def is_size(value):
    """Whether any value is a size."""
    return is_integer(value) and 1 <= value <= MAX_SIZE


def is_integer(value):
    """Whether any value is an integer; True and False are none."""
    return isinstance(value, int) and not isinstance(value, bool)


def is_value(value, size):
    """Whether any value is one of the values of something with this size."""
    return is_integer(value) and 0 <= value < size
