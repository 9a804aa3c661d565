"""Changes of a list of widths that leave its effect as it is."""

from hardwraps.checks import is_integer_in
from hardwraps.errors import InvalidIndex, InvalidLength
from hardwraps.forms import are_equal
from hardwraps.wrapping import check_widths

GREATEST_LIMIT = 100


def redundant(widths):
    """Return the indices of the widths of which each one can be left out alone."""
    check_widths(widths)
    return [at for at in range(len(widths)) if are_equal(widths[:at] + widths[at + 1:], widths)]


def can_exchange(widths, index):
    """Return whether the effect stays if the widths at `index` and `index` + 1 are exchanged."""
    check_widths(widths)
    if not is_integer_in(index, 0, len(widths) - 2):
        raise InvalidIndex("no two widths stand at this index and the next one")
    exchanged = widths[:index] + [widths[index + 1], widths[index]] + widths[index + 2:]
    return are_equal(exchanged, widths)


def harmless_widths(widths, index, limit):
    """Return the widths up to `limit` that can be inserted at the index without an effect."""
    check_widths(widths)
    if not is_integer_in(index, 0, len(widths)):
        raise InvalidIndex("nothing can be inserted at this index")
    if not is_integer_in(limit, 0, GREATEST_LIMIT):
        raise InvalidLength("a limit is an integer from 0 to 100")
    before = widths[:index]
    after = widths[index:]
    return [width for width in range(1, limit + 1) if are_equal(before + [width] + after, widths)]


def commute(first, second):
    """Return whether it makes no difference which one of two lists runs first."""
    check_widths(first)
    check_widths(second)
    return are_equal(first + second, second + first)
