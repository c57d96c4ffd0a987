"""Names, sequences of names, and the limits of the program."""

GUESTS = 16
GIFTS = 16
COUNTED = 12
LISTED = 7
ARRIVALS = 6
HOUSE = 5
LOGGED = 10
PLANNED = 4

LETTERS = "abcdefghijklmnopqrstuvwxyz"


def is_name(value):
    """Return True if the value is a string of one to eight letters from a to z, otherwise False."""
    return isinstance(value, str) and 1 <= len(value) <= 8 and all([letter in LETTERS for letter in value])


def are_names(value):
    """Return True if the value is a list or tuple of different names, otherwise False."""
    if not isinstance(value, (list, tuple)) or not all([is_name(item) for item in value]):
        return False
    return len(set(value)) == len(value)


def is_order(value, names):
    """Return True if the value is a list or tuple of all these names, each once, otherwise False."""
    # The names differ, so a value of the same length that has each of them has no room for anything else.
    return isinstance(value, (list, tuple)) and len(value) == len(names) and all([name in value for name in names])


def named(names, numbers):
    """Return the names with these numbers, a tuple."""
    return tuple([names[number] for number in numbers])


def is_number(value, most):
    """Return True if the value is an integer from 0 to `most`, otherwise False."""
    return isinstance(value, int) and not isinstance(value, bool) and 0 <= value <= most
