"""What all modules ask of plain values."""

from fewnames.errors import InvalidNumber


def is_integer(value):
    """Whether the value is an integer of at most sixty digits."""
    # True and False are values of int, but no integers here.
    return isinstance(value, int) and not isinstance(value, bool) and abs(value) < 10 ** 60


def is_old_name(value):
    """Whether the value is an old name."""
    return is_integer(value) and value >= 0


def is_member(value, integers):
    """Whether the value is one of these integers."""
    return is_integer(value) and value in integers


def check_member(value, integers):
    """Refuses a value that is none of these integers."""
    if not is_member(value, integers):
        raise InvalidNumber(value)


def check_between(value, least, greatest):
    """Refuses a value that is no integer from the least to the greatest one."""
    if not is_integer(value) or value < least or value > greatest:
        raise InvalidNumber(value)
