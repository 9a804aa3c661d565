"""Shortest lists of widths, and whether two lists are equal in effect."""

from hardwraps.checks import check_length, check_positive_length
from hardwraps.periods import first_mismatch, least_periods, telling_columns
from hardwraps.wrapping import check_widths, first_columns


def descent_of(columns):
    """Return the descent of a list of columns that is not empty."""
    periods = least_periods(columns)
    found = []
    length = len(columns)
    while periods[length] < length:
        length = periods[length]
        found.append(length)
    return found


def normal_form(widths):
    """Return a shortest list of widths with the same effect."""
    check_widths(widths)
    if not widths:
        return []
    # Up to twice the first width the descent begins with the least period of all.
    return descent_of(telling_columns(widths, 2 * widths[0]))


def are_equal(widths, other):
    """Return whether two lists are equal in effect."""
    return first_difference(widths, other) is None


def first_difference(widths, other):
    """Return the smallest position with different columns, or None if there is none."""
    check_widths(widths)
    check_widths(other)
    # Two lists with the periods p and q that differ, differ before p + q; and
    # no widths differ from widths with the period p at the position p or before.
    length = sum(widths[:1]) + sum(other[:1]) + 1
    return first_mismatch(first_columns(widths, length), first_columns(other, length))


def descent(widths, length):
    """Return the descent up to the length."""
    check_widths(widths)
    check_positive_length(length)
    if not widths:
        return []
    return descent_of(telling_columns(widths, length))


def are_equal_to(widths, other, length):
    """Return whether two lists are equal in effect up to the length."""
    check_widths(widths)
    check_widths(other)
    check_length(length)
    position = first_difference(widths, other)
    return position is None or position >= length
