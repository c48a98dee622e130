"""What all modules ask of plain values."""

from fewnames.errors import InvalidNumber

# The least integer with more than sixty digits.
TOO_LONG = 10 ** 60


def is_integer(value):
    """Whether the value is an integer of at most sixty digits."""
    # True and False are values of int, but no integers here.
    return isinstance(value, int) and value is not True and value is not False and abs(value) < TOO_LONG


def is_old_name(value):
    """Whether the value is an old name."""
    return isinstance(value, int) and value is not True and value is not False and 0 <= value < TOO_LONG


def is_member(value, integers):
    """Whether the value is one of these integers."""
    return isinstance(value, int) and value is not True and value is not False and value in integers


def check_member(value, integers):
    """Refuses a value that is none of these integers."""
    if not is_member(value, integers):
        raise InvalidNumber(value)


def check_between(value, least, greatest):
    """Refuses a value that is no integer from the least to the greatest one."""
    if not is_integer(value) or value < least or value > greatest:
        raise InvalidNumber(value)


def check_many(many):
    """Refuses a value that is no integer of at least 0."""
    check_between(many, 0, TOO_LONG)
