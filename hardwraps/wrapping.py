"""Columns and breaks of positions."""

from hardwraps.checks import check_position, is_integer_in
from hardwraps.errors import InvalidLength, InvalidWidths

WIDEST = 10000
MOST_COLUMNS = 1000


def is_widths(value):
    """Return whether the value is a list of widths."""
    if not isinstance(value, list):
        return False
    return all([is_integer_in(width, 1, WIDEST) for width in value])


def check_widths(value):
    """Raise InvalidWidths if the value is not a list of widths."""
    if not is_widths(value):
        raise InvalidWidths("widths are a list of integers from 1 to 10000")


def remainder(widths, position):
    """Return the column of a position without a check of the arguments."""
    left = position
    for width in widths:
        left = left % width
    return left


def first_columns(widths, length):
    """Return the list of the first `length` columns without a check of the arguments."""
    found = []
    for width in reversed([length] + widths):
        # The later widths break each full piece of this width in the same way.
        found = _repeated(found, width) if found else list(range(width))
    return found


def _repeated(items, length):
    times = length // len(items) + 1
    return (items * times)[:length]


def column(widths, position):
    """Return the column of a position."""
    check_widths(widths)
    check_position(position)
    return remainder(widths, position)


def columns(widths, length):
    """Return the list of the columns of the first `length` positions."""
    check_widths(widths)
    if not is_integer_in(length, 0, MOST_COLUMNS):
        raise InvalidLength("columns are listed for a length from 0 to 1000")
    return first_columns(widths, length)


def is_break(widths, position):
    """Return whether the position is a break."""
    return column(widths, position) == 0


def last_break(widths, position):
    """Return the greatest break that is not greater than the position."""
    return position - column(widths, position)


def effective(widths):
    """Return the list without the widths that are not less than some width before them."""
    check_widths(widths)
    kept = []
    for width in widths:
        # The last one kept is the least of all widths before this one.
        if not kept or width < kept[-1]:
            kept.append(width)
    return kept
