"""Whole numbers: True and False are none."""


def is_whole(value):
    """True if the value is a whole number."""
    return isinstance(value, int) and not isinstance(value, bool)


def is_index(value, count):
    """True if the value is a whole number that counts one of so many things, from 0 on."""
    return is_whole(value) and 0 <= value < count
