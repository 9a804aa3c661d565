"""Checks of arguments that several modules share."""

from hardwraps.errors import InvalidLength, InvalidPosition

GREATEST = 10 ** 30


def is_integer_in(value, least, greatest):
    """Return whether the value is an integer from `least` to `greatest`."""
    # Python counts True and False as integers, the document does not.
    if isinstance(value, bool) or not isinstance(value, int):
        return False
    return least <= value <= greatest


def check_position(value):
    """Raise InvalidPosition if the value is not a position."""
    if not is_integer_in(value, 0, GREATEST):
        raise InvalidPosition("a position is an integer from 0 to 10 ** 30")


def check_length(value):
    """Raise InvalidLength if the value is not a length."""
    if not is_integer_in(value, 0, GREATEST):
        raise InvalidLength("a length is an integer from 0 to 10 ** 30")


def check_positive_length(value):
    """Raise InvalidLength if the value is not a length, or is 0."""
    if not is_integer_in(value, 1, GREATEST):
        raise InvalidLength("this length is an integer from 1 to 10 ** 30")
