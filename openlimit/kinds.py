"""The kinds of plain values that several modules ask for."""


def is_between(value, low, high):
    """Return whether the value is an integer (True and False are none) from low to high."""
    return type(value) == int and low <= value <= high


def ordered(values):
    """Return the ascending tuple of the values."""
    return tuple(sorted(set(values)))
