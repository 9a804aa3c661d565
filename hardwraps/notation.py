"""Widths and pieces that are written as strings."""

from hardwraps.errors import ParseError
from hardwraps.reading import MOST_CHARACTERS, MOST_PIECES, check_pieces
from hardwraps.wrapping import WIDEST, check_widths

NO_WIDTHS = '-'


def number_to(text, greatest):
    """Return the number from 0 to `greatest` that a string writes, or None if it writes none."""
    # `int` alone would read signs, blanks and underscores, too, and it fails on
    # thousands of digits; a number with more digits than `greatest` is greater.
    if not text.isascii() or not text.isdigit() or len(text) > len(str(greatest)):
        return None
    number = int(text)
    if str(number) != text or number > greatest:
        return None
    return number


def _positive_part(part, greatest, index):
    """Return the number from 1 to `greatest` that the part with this index writes."""
    number = number_to(part, greatest)
    if number is None or number == 0:
        raise ParseError(index)
    return number


def _check_string(value):
    if not isinstance(value, str):
        raise ParseError()


def format_widths(widths):
    """Return the notation of widths."""
    check_widths(widths)
    if not widths:
        return NO_WIDTHS
    return ','.join([str(width) for width in widths])


def format_pieces(pieces):
    """Return the notation of pieces."""
    check_pieces(pieces)
    return '+'.join([str(size) for size in pieces])


def parse_widths(text):
    """Return the widths with this notation."""
    _check_string(text)
    if text == NO_WIDTHS:
        return []
    return [_positive_part(part, WIDEST, index) for index, part in enumerate(text.split(','))]


def parse_pieces(text):
    """Return the pieces with this notation."""
    _check_string(text)
    pieces = []
    left = MOST_CHARACTERS
    for index, part in enumerate(text.split('+')):
        if index == MOST_PIECES:
            raise ParseError(index)
        size = _positive_part(part, left, index)
        pieces.append(size)
        left -= size
    return pieces
