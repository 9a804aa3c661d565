"""Numbers and lengths of pieces, and breaks by their number."""

from hardwraps.checks import GREATEST, check_length, is_integer_in
from hardwraps.errors import InvalidIndex, TooMany
from hardwraps.wrapping import check_widths

MOST_PIECES = 400


def tally(widths, length):
    """Return a dict from each length that pieces of a line have to their number.

    A line can have too many pieces to list them, but with each width at most
    one more length appears, so there are few entries.
    """
    counts = {length: 1} if length > 0 else {}
    for width in widths:
        counts = _tally_broken(counts, width)
    return counts


def _tally_broken(counts, width):
    shorter = {}
    for size, many in counts.items():
        for part, times in ((width, size // width), (size % width, 1)):
            if part > 0 and times > 0:
                shorter[part] = shorter.get(part, 0) + many * times
    return shorter


def total_pieces(widths, length):
    """Return the number of pieces of a line without a check of the arguments."""
    counts = tally(widths, length)
    return sum(counts.values())


def piece_sizes(widths, length):
    """Return the list of the lengths of all pieces of a line, in order."""
    check_widths(widths)
    check_length(length)
    count = total_pieces(widths, length)
    if count > MOST_PIECES:
        raise TooMany(count)
    sizes = [length] if length > 0 else []
    for width in widths:
        sizes = [min(width, size - start) for size in sizes for start in range(0, size, width)]
    return sizes


def count_pieces(widths, length):
    """Return the number of pieces of a line."""
    check_widths(widths)
    check_length(length)
    return total_pieces(widths, length)


def nth_break(widths, index):
    """Return the break with this index, counted from 0."""
    check_widths(widths)
    if not is_integer_in(index, 0, GREATEST):
        raise InvalidIndex("an index of a break is an integer from 0 to 10 ** 30")
    if not widths and index > 0:
        raise InvalidIndex("without widths position 0 is the only break")
    position = 0
    left = index
    for at, width in enumerate(widths):
        # The later widths break each full piece of this width in the same way.
        pieces = total_pieces(widths[at + 1:], width)
        position += left // pieces * width
        left = left % pieces
    return position


def piece_lengths(widths):
    """Return the ascending list of the lengths that pieces have in a line without end."""
    check_widths(widths)
    if not widths:
        return []
    # The first program leaves pieces of its width only, if the line never ends.
    return sorted(tally(widths, widths[0]))


def count_of_length(widths, length, size):
    """Return how many pieces of a line have exactly `size` characters."""
    check_widths(widths)
    check_length(length)
    check_length(size)
    counts = tally(widths, length)
    return counts.get(size, 0)
