"""The kinds of plain values that several modules ask for."""


def is_between(value, low, high):
    """Return whether the value is an integer (True and False are none) from low to high."""
    return isinstance(value, int) and not isinstance(value, bool) and low <= value <= high


def is_letter(value):
    """Return whether the value is a string of one lowercase letter."""
    return isinstance(value, str) and len(value) == 1 and "a" <= value <= "z"


def is_ascending(values):
    """Return whether the values, which Python can compare, are strictly ascending."""
    return all([low < high for low, high in zip(values, values[1:])])


def ordered(values):
    """Return the ascending tuple of the values."""
    return tuple(sorted(set(values)))
