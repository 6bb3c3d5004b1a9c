"""What counts as an integer, and the errors for ticks and numbers that are wrong."""

from litdigits.errors import InvalidNumber, InvalidTick


def is_integer(value):
    """Whether a value is an integer of this package."""
    # True and False are of a subclass of int, but they are no integers here.
    return isinstance(value, int) and not isinstance(value, bool)


# These two stand in each check of a display or a camera, so they do without a call of is_integer.


def is_from(value, least):
    """Whether a value is an integer from least on."""
    return isinstance(value, int) and not isinstance(value, bool) and value >= least


def is_within(value, least, greatest):
    """Whether a value is an integer from least to greatest."""
    return isinstance(value, int) and not isinstance(value, bool) and least <= value <= greatest


# The messages leave the value out: Python refuses to write integers with very many digits.


def check_tick(value):
    """Raise InvalidTick unless a value is a tick."""
    if not is_integer(value):
        raise InvalidTick("a tick is an integer")


def check_number_from(value, least):
    """Raise InvalidNumber unless a value is an integer from least on."""
    if not is_from(value, least):
        raise InvalidNumber(f"not an integer from {least} on")


def check_number_within(value, least, greatest):
    """Raise InvalidNumber unless a value is an integer from least to greatest."""
    if not is_within(value, least, greatest):
        raise InvalidNumber(f"not an integer from {least} to {greatest}")
