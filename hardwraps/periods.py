"""Periods of widths, and how far a line agrees with itself after a shift."""

from hardwraps.checks import GREATEST, check_length, check_position, check_positive_length, is_integer_in
from hardwraps.errors import InvalidPeriod
from hardwraps.wrapping import check_widths, first_columns


def first_mismatch(left, right):
    """Return the least index at which two lists of the same length differ, or None."""
    for at, (one, other) in enumerate(zip(left, right)):
        if one != other:
            return at
    return None


def least_periods(columns):
    """Return a list of which item n is the least period of the first n columns, for n >= 1.

    The first n columns have the period n - k if and only if the first k of
    them are equal to the last k. So the greatest such k below n is sought, as
    Knuth, Morris and Pratt do, which takes few steps for all n together.
    """
    borders = [0, 0]
    border = 0
    for at in range(1, len(columns)):
        while border > 0 and columns[at] != columns[border]:
            border = borders[border]
        if columns[at] == columns[border]:
            border += 1
        borders.append(border)
    return [length - border for length, border in enumerate(borders)]


def telling_columns(widths, length):
    """Return as many of the first `length` columns as have their least period.

    There are widths. The first one of them is a period. Over twice as many
    columns, by the theorem of Fine and Wilf, the least period divides it, and
    so it is a period of all further columns.
    """
    return first_columns(widths, min(length, 2 * widths[0]))


def overlap(widths, shift):
    """Return how many columns after the shift are those from 0 on, or None if all are."""
    check_widths(widths)
    check_position(shift)
    if not widths:
        return None if shift == 0 else 0
    # Both sides repeat after the first width, so what differs, differs before it.
    block = first_columns(widths, widths[0])
    start = shift % widths[0]
    return first_mismatch(block, block[start:] + block[:start])


def least_period(widths):
    """Return the least period, or None without widths."""
    check_widths(widths)
    if not widths:
        return None
    return least_periods(telling_columns(widths, 2 * widths[0]))[-1]


def has_period(widths, length, period):
    """Return whether `period` is a period up to the length."""
    check_widths(widths)
    check_length(length)
    if not is_integer_in(period, 1, GREATEST):
        raise InvalidPeriod("a period is an integer from 1 to 10 ** 30")
    same = overlap(widths, period)
    return same is None or period + same >= length


def least_period_to(widths, length):
    """Return the least period up to the length."""
    check_widths(widths)
    check_positive_length(length)
    if not widths:
        return length
    return least_periods(telling_columns(widths, length))[-1]
