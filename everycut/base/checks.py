"""Checks of integers."""

from everycut.errors import InvalidNumber


def is_number(value, low, high):
    """Whether the value is an integer from low to high."""
    # True and False are integers for Python, and none here.
    return isinstance(value, int) and not isinstance(value, bool) and low <= value <= high


def check_number(value, low, high):
    """Raises InvalidNumber unless the value is an integer from low to high."""
    if not is_number(value, low, high):
        raise InvalidNumber(value)
